import PyProof.Rows.All
import Wide.All
import OpenK.AllK
import Wide.FinOn
import HandS.ForMost
import HandS.ForExc
import HandS.Wide
import HandS.SlotsOwn
import HandS.ExcIs
import HandS.Gcd
import HandS.Codes
import HandS.IsInst
import HandS.MakeKw
import HandS.Defaults
import HandS.FStr
import HandS.Property
import KE.KOpsOwn
import PySem.Challenge.RW_dampspells_k00_ratios_exact
set_option Elab.async false
set_option linter.all false
set_option maxRecDepth 100000
namespace OW
open PySem PySem.Spec PyProof.Rows L2
/-- what the operators of the class at C ask -/
def rOwn2 (C : Addr) (sp : Sp) (E : XK) : R2 := fun x y H Q => ∃ a dx fs b dy gs, x = .ref a ∧ y = .ref b ∧ H a = some (.ins C dx fs) ∧ H b = some (.ins C dy gs) ∧ sp [x, y] H Q E
def rOwn1 (C : Addr) (sp : Sp) (E : XK) : V → Hp → VK → Prop := fun x H Q => ∃ a dx fs, x = .ref a ∧ H a = some (.ins C dx fs) ∧ sp [x] H Q E
section
variable {X : Cx} {CX : CXT} {k : Nat} {C f : Addr} {fd : FuncData} {ps : List Str} {sp : Sp} {E : XK}
theorem inst {pins : List (Addr × Obj)} {σ : L2.St} {H : Hp} {s : Shared} {a dx : Addr} {fs : List (Str × V)} (I : Inv X pins σ H s) (e : H a = some (.ins C dx fs)) : ∃ ox od, PySem.W.InstAt s.heap a ox C od := by
  exact let ⟨_, O, _⟩ := ins_get I.hok e; let ⟨od, J, _⟩ := O.look; ⟨_, od, J⟩
theorem op_bin {op : Operator} {m : Str} (hm : m = PySem.dunder op.info.2) (M : Meth X.K C m f) (hc : PySem.W.selfFirst X.K C = true) (F : FnOk X.prog X.w X.K X.mg X.base CX k f fd ps sp) (hr : Room k X.A) (hb : Binds X.K fd ps []) (hx : Passes CX X E) :
    OpR X (binaryOp op) (rOwn2 C sp E) := by
  intro pn s σ H x y v u Q I rx ry ⟨a, dx, fs, b, dy, gs, ex, ey, ha, hb', q⟩
  subst ex ey
  cases rx; cases ry
  obtain ⟨ox, od, J⟩ := inst I ha
  obtain ⟨oy, od', J'⟩ := inst I hb'
  obtain ⟨m', hF⟩ := I.fr
  subst hm
  refine PySem.W.binop_K hF I.ok.mod.kin J J'.type hc M.at_ M.fn ?_
  refine wpAny_mono (run_fn (us := [.ref a, .ref b]) (vs := [.ref a, .ref b]) F hr hb .nil hx I (.cons rfl (.cons rfl .nil)) q) (fun w s' z => ?_) fun _ _ x => x
  exact let ⟨z1, H1, J1, r1, q1⟩ := z; SlX.cmpback r1 ⟨z1, H1, J1, r1, q1⟩
theorem op_cmp {op : CmpOp} {m : Str} (hm : m = (PySem.cmpInfo op).2.1) (hop : ∀ a b, compareOp op a b = richCompare op a b) (M : Meth X.K C m f) (hn : PySem.W.notFirst X.K C (.ref C) = true) (F : FnOk X.prog X.w X.K X.mg X.base CX k f fd ps sp) (hr : Room k X.A) (hb : Binds X.K fd ps []) (hx : Passes CX X E) :
    OpR X (compareOp op) (rOwn2 C sp E) := by
  intro pn s σ H x y v u Q I rx ry ⟨a, dx, fs, b, dy, gs, ex, ey, ha, hb', q⟩
  subst ex ey
  cases rx; cases ry
  obtain ⟨ox, od, J⟩ := inst I ha
  obtain ⟨oy, od', J'⟩ := inst I hb'
  obtain ⟨m', hF⟩ := I.fr
  subst hm
  rw [hop]
  refine PySem.W.cmp_K (op := op) (tb := .ref C) hr.units0 hF I.ok.mod.kin J J'.type hn M.at_ M.fn ?_
  refine wpAny_mono (run_fn (us := [.ref a, .ref b]) (vs := [.ref a, .ref b]) F hr hb .nil hx I (.cons rfl (.cons rfl .nil)) q) (fun w s' z => ?_) fun _ _ x => x
  exact let ⟨z1, H1, J1, r1, q1⟩ := z; SlX.cmpback r1 ⟨z1, H1, J1, r1, q1⟩
theorem un_neg {m : Str} (hm : m = "__neg__") (M : Meth X.K C m f) (F : FnOk X.prog X.w X.K X.mg X.base CX k f fd ps sp) (hr : Room k X.A) (hb : Binds X.K fd ps []) (hx : Passes CX X E) : UnR X (unaryOp .USub) (rOwn1 C sp E) := by
  intro pn s σ H x v Q I rx ⟨a, dx, fs, ex, ha, q⟩
  subst ex
  cases rx
  obtain ⟨ox, od, J⟩ := inst I ha
  obtain ⟨m', hF⟩ := I.fr
  subst hm
  refine PySem.W.ksp_neg hF I.ok.mod.kin J M.at_ M.fn ?_
  exact run_fn (us := [.ref a]) (vs := [.ref a]) F hr hb .nil hx I (.cons rfl .nil) q
/-- x in o, o of the class at C: its __contains__ gives a bool -/
def rInOwn (C : Addr) (sp : Sp) (E : XK) (neg : Bool) : R2 := fun y x H Q => ∃ a dx fs, x = .ref a ∧ H a = some (.ins C dx fs) ∧ sp [x, y] H (fun z H' => ∃ b, z = .bl b ∧ Q (.bl (if neg then !b else b)) H') E
theorem op_in {m : Str} (hm : m = "__contains__") (M : Meth X.K C m f) (F : FnOk X.prog X.w X.K X.mg X.base CX k f fd ps sp) (hr : Room k X.A) (hb : Binds X.K fd ps []) (hx : Passes CX X E) : OpR X (compareOp .In) (rInOwn C sp E false) := by
  intro pn s σ H y x v u Q I ry rx ⟨a, dx, fs, ex, ha, q⟩
  subst ex
  cases rx
  obtain ⟨ox, od, J⟩ := inst I ha
  obtain ⟨m', hF⟩ := I.fr
  subst hm
  refine PySem.W.in_K hF I.ok.mod.kin J M.at_ M.fn ?_
  refine wpAny_mono (run_fn (us := [.ref a, v]) (vs := [.ref a, y]) F hr hb .nil hx I (.cons rfl (.cons ry .nil)) q) (fun w s' z => ?_) fun _ _ x => x
  obtain ⟨z', H', I', rz, b, eb, qz⟩ := z
  subst eb
  cases (show w = Value.bool b from rz)
  exact wpAny_truthy_bool ⟨.bl b, H', I', rfl, qz⟩
end
end OW
namespace OW
open PySem PySem.Spec PyProof.Rows L2
/-- // by any divisor but 0 below 2 ^ 9000 -/
def CDivA (_ j : Int) : Prop := j ≠ 0 ∧ j.natAbs.log2 < 9000
def wInt1 : List V → Hp → VK → Prop := fun xs H Q => (∃ i, xs = [.int i] ∧ Q (.int i) H) ∨ ∃ k, xs = [.bl k] ∧ Q (.int (if k = true then 1 else 0)) H
def wAbs : List V → Hp → VK → Prop := fun xs H Q => ∃ i, xs = [.int i] ∧ Q (.int (if i < 0 then -i else i)) H
def wMax2 : List V → Hp → VK → Prop := fun xs H Q => ∃ i j, xs = [.int i, .int j] ∧ Q (.int (if j > i then j else i)) H
def wMin2 : List V → Hp → VK → Prop := fun xs H Q => ∃ i j, xs = [.int i, .int j] ∧ Q (.int (if j < i then j else i)) H
def wStrI : List V → Hp → VK → Prop := fun xs H Q => ∃ i, xs = [.int i] ∧ i.natAbs.log2 < 1920 ∧ Q (.str (toString i)) H
def wLen (K : PySem.W.Frag) : List V → Hp → VK → Prop := fun xs H Q => ∃ p ys, xs = [.ref p] ∧ (SqL K H p ys ∨ SqT K H p ys) ∧ Q (.int ys.length) H
def wLenS : List V → Hp → VK → Prop := fun xs H Q => ∃ z, xs = [.str z] ∧ z.length ≤ sizeLine ∧ Q (.int z.length) H
def wAddS : R2 := fun x y H Q => ∃ i j, x = .str i ∧ y = .str j ∧ i.length + j.length ≤ sizeLine ∧ Q (.str (i ++ j)) H
/-- isinstance of the exception that a suite holds (its class has no own __init__) -/
def rIsEE (K : PySem.W.Frag) (a : Addr) (cls : Value) (d : Option Addr) : List V → Hp → VK → Prop := fun xs H Q => ∃ (D : Addr) (c : V) (cv : Value) (b : Bool), xs = [.ref a, c] ∧ cls = .ref D ∧ d = none ∧ ExcC K D ∧ (∀ u, RelV c u → u = cv) ∧ PySem.W.kitOne K (.ref D) cv = some b ∧ Q (.bl b) H
section
variable {X : Cx}
theorem op_fdivA : OpR X (binaryOp .FloorDiv) (rI CDivA fun i j => .int (i.fdiv j)) := opI fun i j _ _ _ _ _ hc q => floordiv_int hc.1 q (.inl (PyProof.noPylong_of_log2 hc.2))
theorem c_int1 : CallR X (.type "int") wInt1 := call_int1
theorem c_abs : CallR X (.builtin "abs") wAbs := call_abs
theorem c_max2 (hc : X.calm = true) : CallR X (.builtin "max") wMax2 := call_max2 hc
theorem c_min2 (hc : X.calm = true) : CallR X (.builtin "min") wMin2 := call_min2 hc
theorem c_strI : CallR X (.type "str") wStrI := call_str_int
theorem c_len : CallR X (.builtin "len") (wLen X.K) := call_len_seq
theorem c_lenS : CallR X (.builtin "len") wLenS := call_len_str
theorem op_addS : OpR X (binaryOp .Add) wAddS := op_add_str
theorem c_isEE {a : Addr} {oe : Obj} {cls : Value} {d : Option Addr} {pn : List (Addr × Obj)} (hz : Zc cls d oe) (hf : ∃ vs, oe.data = .fields vs) : CallR (X.suite a ((a, oe) :: pn)) (.builtin "isinstance") (rIsEE X.K a cls d) := by
  intro pn s σ H xs us Q I r ⟨D, c, cv, b, ex, ec, ed, hE, hc, e, q⟩
  subst ex ec ed
  exact call_isE hE hz hf pn s σ H _ us Q I r ⟨c, cv, b, rfl, hc, e, q⟩
end
/-- C(e, ..) in the body of a try: what its __init__ lets out meets the wish at the slots as they stand -/
def tMakeS (C : Addr) (sp : Sp) (dvs : List V) (E : L2.St → XK) (t : TA) : TE := fun σ H Q =>
  t σ H fun vs G => ∀ o d, G o = none → G d = none → d ≠ o →
    sp (.ref o :: (vs ++ dvs)) (upd (upd G d (.own o)) o (.ins C d [])) (fun v G' => v = .non ∧ Q (.ref o) G') (E σ)
section
variable {X : Cx} {CX : CXT} {k : Nat} {C f : Addr} {fd : FuncData} {ps : List Str} {sp : Sp} {ds : List Value} {dvs : List V}
/-- the new object and its dict are the heap's next two places -/
theorem run_makeS {pn : List (Addr × Obj)} {σ : L2.St} {G : Hp} {s : Shared} {Q : VK} {us : List Value} {vs : List V} {E : XK}
    (M : Mk X.K C f) (F : FnOk X.prog X.w X.K X.mg X.base CX k f fd ps sp) (room : Room (k + 1) X.A) (bd : Binds X.K fd ps ds) (vd : Vals dvs ds) (px : PassesAt CX X σ E) (I : Inv X pn σ G s) (rv : Vals vs us)
    (want : ∀ o d, G o = none → G d = none → d ≠ o → sp (.ref o :: (vs ++ dvs)) (upd (upd G d (.own o)) o (.ins C d [])) (fun v G' => v = .non ∧ Q (.ref o) G') E) :
    wpAny (model X.prog X.w) X.A (call (.ref C) us) (EP X pn σ Q) X.xe s := by
  let d := s.heap.objs.size
  let o := d + 1
  have fresh : ∀ a, d ≤ a → G a = none := fun a h => I.hok.fresh h
  have w0 := want o d (fresh o (Nat.le_succ d)) (fresh d (Nat.le_refl d)) (Nat.ne_of_lt (Nat.lt_succ_self d))
  have I1 := I.made (C := C)
  have rall : Vals (V.ref o :: (vs ++ dvs)) (Value.ref o :: (us ++ ds)) := .cons rfl (rv.append vd)
  have len : (Value.ref o :: us ++ ds).length = ps.length := rall.length.symm.trans (F.len _ _ _ _ w0)
  have body := F.run _ X.stack _ _ ⟨Value.ref o :: us, []⟩ (Value.ref o :: (us ++ ds)) _ _ E (room.make C us []) (I1.env0.make C us []) (bd _ (Value.ref o :: us) I1.kIn len) rall w0
  refine wpAny_call (make_map (f := f) I.kIn M.makes M.init (beq_iff_eq.mp M.fn) (codeAny_mono body ?_))
  rintro (er | fl) s1 h1
  · exact px pn _ _ er s1 I1 h1
  · cases fl with
    | ret u => exact let ⟨_, G1, J, ru, ev, q⟩ := I1.after h1; ⟨by subst ev; exact ru, .ref o, G1, J, rfl, q⟩
    | _ => exact h1.elim
theorem pe_makeS {E : L2.St → XK} {x : Str} {p pos : Pos} {e : Expr} {es : List Expr} {t : TA} (M : Mk X.K C f) (F : FnOk X.prog X.w X.K X.mg X.base CX k f fd ps sp) (room : Room (k + 1) X.A) (hg : Gl X x) (hm : X.mg x = some (.ref C)) (bd : Binds X.K fd ps ds) (vd : Vals dvs ds)
    (px : ∀ σ, PassesAt CX X σ (E σ)) (args : PA X (e :: es) t)
    (nd : (x == ("__debug__" : Str)) = false := by decide) (h1 : starEach (e :: es) X.env = (false, eval e X.env) :: starEach es X.env := by rfl) (h2 : (backTo pos (starEach es X.env)).any (·.1) = false := by rfl) :
    PE X (.Call (.Name x p) (e :: es) [] pos) (tMakeS C sp dvs E t) where
  run pn s σ G Q I h := by
    refine wpAny_Call_Name_kw (ld_glob I hg hm ?_ nd)
    refine PySem.W.callWith_K (h₀ := X.base) I.ok.mod.kin M.kp ?_ h1 h2
    refine thn (args.run pos pn s σ G _ I h) ?_
    rintro us s1 ⟨_, _, J, rv, q⟩
    exact ⟨J.kIn, run_makeS M F room bd vd (px σ) J rv q⟩
end
end OW
namespace OW
open PySem PySem.Spec PyProof.Rows L2
def wFmt : V → Hp → VK → Prop := fun x H Q => (∃ y : Str, x = .str y ∧ y.length ≤ sizeLine ∧ Q (.str y) H) ∨ ∃ i : Int, x = .int i ∧ i.natAbs.log2 < 1920 ∧ Q (.str (toString i)) H
theorem pe_fmtU {X : Cx} {e : Expr} {te : TE} {pos : Pos} (he : PE X e te) : PE X (.FormattedValue e (-1) none pos) (tUn wFmt te) := pe_fmt he
end OW
namespace OW
open PySem PySem.Spec PyProof.Rows L2
section
variable {P : Program} {w : World} {K : PySem.W.Frag} {mg : Str → Option Value} {base : Heap} {x qual : Str} {st : Stmt} {dvs : List V} {kws : List (Str × V)} {f : Addr} {fd : FuncData} {N ps : List Str} {k : Nat} {sp : Sp}
/-- what is to be shown of a def's body: W its wish for exceptions -/
def BodyOk (P : Program) (w : World) (K : PySem.W.Frag) (mg : Str → Option Value) (base : Heap) (N : List Str) (qual : Str) (st : Stmt) (f : Addr) (k : Nat) (sp : Sp) (CX : CXT) (no : Bool) : Prop :=
  ∀ (cdv : Value) (A : Around) (outer : List Env) (s : Shared) (H : Hp) (vs : List V) (Q : VK) (E : XK),
    Room k (A.deeper (envOfC qual (defScope st) s.heap.objs.size f cdv)) → sp vs H Q E → ∃ t,
      (if no = true then PSs (cxOf CX P w K mg base N qual (defScope st) f cdv A outer s H E).nox (defBody st) t else PSs (cxOf CX P w K mg base N qual (defScope st) f cdv A outer s H E) (defBody st) t) ∧
      t { nx := fun _ H' => Q .non H', rt := Q } (start N vs) H
theorem okD (F : FunD K x qual (defArgs st) (defBody st) (defScope st) dvs kws f fd) (S : FnScope N ps (defScope st)) (len : ∀ vs H Q E, sp vs H Q E → vs.length = ps.length) (body : BodyOk P w K mg base N qual st f k sp CX0 true) : FnOk P w K mg base CX0 (k + 1) f fd ps sp :=
  F.ok S len fun cdv A outer s H vs Q E hr h => let ⟨t, h1, q⟩ := body cdv A outer s H vs Q E hr h; ⟨t, PSs.nox h1, q⟩
theorem okDX (F : FunD K x qual (defArgs st) (defBody st) (defScope st) dvs kws f fd) (S : FnScope N ps (defScope st)) (len : ∀ vs H Q E, sp vs H Q E → vs.length = ps.length) (body : BodyOk P w K mg base N qual st f k sp (L2.CX P w) false) : FnOk P w K mg base (L2.CX P w) (k + 1) f fd ps sp :=
  F.ok S len fun cdv A outer s H vs Q E hr h => let ⟨t, h1, q⟩ := body cdv A outer s H vs Q E hr h; ⟨t, h1, q⟩
end
end OW

namespace R
open PySem PySem.Spec PyProof.Rows L2
section
variable {σ : L2.St} {H : Hp} {Q : VK} {QB : Bool → Hp → Prop} {QL : List V → Hp → Prop} {QS : L2.St → Hp → Prop} {v x y : V} {ta tb tc te : TE} {r : R2} {i j : Int} {b : Bool} {D : Ends} {t u : TS} {c c2 : TT} {g : TG} {K : PySem.W.Frag} {p : Addr} {xs : List V}
theorem cst (q : Q v H) : tC v σ H Q := q
theorem op (h : ta σ H fun x H1 => tb σ H1 fun y H2 => r x y H2 Q) : tOp r ta tb σ H Q := h
theorem un {r : V → Hp → VK → Prop} (h : ta σ H fun x H1 => r x H1 Q) : tUn r ta σ H Q := h
theorem i0 {g : Int → Int → V} (q : Q (g i j) H) : rI0 g (.int i) (.int j) H Q := ⟨i, j, rfl, rfl, q⟩
theorem i1 {C : Int → Int → Prop} {g : Int → Int → V} (hc : C i j) (q : Q (g i j) H) : rI C g (.int i) (.int j) H Q := ⟨i, j, rfl, rfl, hc, q⟩
theorem uI {g : Int → V} (q : Q (g i) H) : rU g (.int i) H Q := ⟨i, rfl, q⟩
theorem eqII (q : Q (.bl (decide (i = j))) H) : rEq (.int i) (.int j) H Q := ⟨rfl, by rw [show decide (V.int i = V.int j) = decide (i = j) by simp]; exact q⟩
theorem neII (q : Q (.bl (!decide (i = j))) H) : rNe (.int i) (.int j) H Q := ⟨rfl, by rw [show decide (V.int i = V.int j) = decide (i = j) by simp]; exact q⟩
theorem eqBB {d : Bool} (q : Q (.bl (b == d)) H) : rEq (.bl b) (.bl d) H Q := ⟨rfl, by rw [show decide (V.bl b = V.bl d) = (b == d) by cases b <;> cases d <;> rfl]; exact q⟩
theorem neBB {d : Bool} (q : Q (.bl (b != d)) H) : rNe (.bl b) (.bl d) H Q := ⟨rfl, by rw [show (!decide (V.bl b = V.bl d)) = (b != d) by cases b <;> cases d <;> rfl]; exact q⟩
theorem eqSS {s d : Str} (q : Q (.bl (decide (s = d))) H) : rEq (.str s) (.str d) H Q := ⟨rfl, by rw [show decide (V.str s = V.str d) = decide (s = d) by simp]; exact q⟩
theorem neSS {s d : Str} (q : Q (.bl (!decide (s = d))) H) : rNe (.str s) (.str d) H Q := ⟨rfl, by rw [show decide (V.str s = V.str d) = decide (s = d) by simp]; exact q⟩
theorem eqS (hs : scal x y = true) (q : Q (.bl (decide (x = y))) H) : rEq x y H Q := ⟨hs, q⟩
theorem neS (hs : scal x y = true) (q : Q (.bl (!decide (x = y))) H) : rNe x y H Q := ⟨hs, q⟩
theorem seq (h : t { D with nx := u D } σ H) : tSeq t u D σ H := h
theorem nxt (h : D.nx σ H) : tNext D σ H := h
theorem brk (h : D.bk σ H) : tBreak D σ H := h
theorem cnt (h : D.ct σ H) : tCont D σ H := h
theorem asg (h : te σ H fun x H1 => g x σ H1 D.nx) : tAsg te g D σ H := h
theorem drop (h : te σ H fun _ H1 => D.nx σ H1) : tDrop te D σ H := h
theorem ret (h : te σ H D.rt) : tRet te D σ H := h
theorem retN (h : D.rt .non H) : tRetN D σ H := h
theorem ifS (h : c σ H fun b H1 => if b = true then t D σ H1 else u D σ H1) : tIfS c t u D σ H := h
theorem ifE (h : c σ H fun b H1 => if b = true then ta σ H1 Q else tb σ H1 Q) : tIf c ta tb σ H Q := h
theorem test (h : te σ H fun x H' => ∃ k, x = .bl k ∧ QB k H') : tTest te σ H QB := h
theorem tbl (h : te σ H fun x H1 => ∃ c, x = .bl c ∧ QB c H1) : tB te σ H QB := h
theorem exb (q : QB b H) : ∃ k, V.bl b = .bl k ∧ QB k H := ⟨b, rfl, q⟩
theorem exb' {q : Bool → Prop} (h : q b) : ∃ k, V.bl b = .bl k ∧ q k := ⟨b, rfl, h⟩
theorem and (h : c σ H fun d H1 => if d = true then c2 σ H1 QB else QB false H1) : tAnd c c2 σ H QB := h
theorem or (h : c σ H fun d H1 => if d = true then QB true H1 else c2 σ H1 QB) : tOr c c2 σ H QB := h
theorem not (h : c σ H fun d H1 => QB (!d) H1) : tNot c σ H QB := h
theorem andV (h : ta σ H fun x H1 => ∃ c, x = .bl c ∧ if c = true then tb σ H1 Q else Q (.bl false) H1) : tAndV ta tb σ H Q := h
theorem orV (h : ta σ H fun x H1 => ∃ c, x = .bl c ∧ if c = true then Q (.bl true) H1 else tb σ H1 Q) : tOrV ta tb σ H Q := h
theorem notV (h : ta σ H fun x H1 => ∃ c, x = .bl c ∧ Q (.bl (!c)) H1) : tNotV ta σ H Q := h
theorem isN (h : ta σ H fun x H1 => Q (.bl (decide (x = .non))) H1) : tIsN ta σ H Q := h
theorem notN (h : ta σ H fun x H1 => Q (.bl (!decide (x = .non))) H1) : tNotN ta σ H Q := h
theorem chain {r r' : R2} (h : ta σ H fun x H1 => tb σ H1 fun y H2 => r x y H2 fun z H3 => ∃ k, z = .bl k ∧ (if k = true then tc σ H3 fun w' H4 => r' y w' H4 Q else Q (.bl false) H3)) : tChain r r' ta tb tc σ H Q := h
theorem nil (h : QL [] H) : tNil σ H QL := h
theorem cons {tr : TA} (h : ta σ H fun x H1 => tr σ H1 fun xs H2 => QL (x :: xs) H2) : tCons ta tr σ H QL := h
theorem cb {r : List V → Hp → VK → Prop} {t : TA} (h : t σ H fun vs H1 => r vs H1 Q) : tCB r t σ H Q := h
theorem call {sp : Sp} {dvs : List V} {E : XK} {t : TA} (h : t σ H fun vs H1 => sp (vs ++ dvs) H1 Q E) : tCall sp dvs E t σ H Q := h
theorem tup {t : TA} (h : t σ H fun xs H1 => xs.length ≤ sizeLine ∧ ∀ p, H1 p = none → Q (.ref p) (upd H1 p (.tup xs))) : tTup t σ H Q := h
theorem lst {t : TA} (h : t σ H fun xs H1 => xs.length ≤ sizeLine ∧ ∀ p, H1 p = none → Q (.ref p) (upd H1 p (.lst xs))) : tLst t σ H Q := h
theorem lnew {A : Prop} (h : xs.length ≤ sizeLine) (k : A) : xs.length ≤ sizeLine ∧ A := ⟨h, k⟩
theorem isi {c : V} {t u : Value} (hc : ClsV c u) (ht : TyX K H x t) (e : PySem.W.kitOne K t u = some b) (q : Q (.bl b) H) : rIsi K [x, c] H Q := ⟨x, c, t, u, b, rfl, hc, ht, e, q⟩
theorem ixl (h : SqL K H p xs) (e : atI xs i = some v) (q : Q v H) : rIxL K (.ref p) (.int i) H Q := ⟨p, xs, i, v, rfl, rfl, h, e, q⟩
theorem ixt (h : SqT K H p xs) (e : atI xs i = some v) (q : Q v H) : rIxT K (.ref p) (.int i) H Q := ⟨p, xs, i, v, rfl, rfl, h, e, q⟩
theorem gsub {to ti : TE} {ts : TSet} (h : to σ H fun o H1 => ti σ H1 fun i H2 => ts o i v H2 fun H3 => QS σ H3) : gSub to ti ts v σ H QS := h
theorem setl {QH : Hp → Prop} {k : Int} {n : Nat} (h : H p = some (.lst xs)) (e : ixN xs.length k = some n) (q : QH (upd H p (.lst (xs.set n v)))) : rSetL (.ref p) (.int k) v H QH := ⟨p, xs, k, n, rfl, rfl, h, e, q⟩
theorem int1 (q : Q (.int i) H) : OW.wInt1 [.int i] H Q := .inl ⟨i, rfl, q⟩
theorem int1b (q : Q (.int (if b = true then 1 else 0)) H) : OW.wInt1 [.bl b] H Q := .inr ⟨b, rfl, q⟩
theorem abs1 (q : Q (.int (if i < 0 then -i else i)) H) : OW.wAbs [.int i] H Q := ⟨i, rfl, q⟩
theorem max2 (q : Q (.int (if j > i then j else i)) H) : OW.wMax2 [.int i, .int j] H Q := ⟨i, j, rfl, q⟩
theorem min2 (q : Q (.int (if j < i then j else i)) H) : OW.wMin2 [.int i, .int j] H Q := ⟨i, j, rfl, q⟩
theorem strI (h : i.natAbs.log2 < 1920) (q : Q (.str (toString i)) H) : OW.wStrI [.int i] H Q := ⟨i, rfl, h, q⟩
theorem lenS {z : Str} (h : z.length ≤ sizeLine) (q : Q (.int z.length) H) : OW.wLenS [.str z] H Q := ⟨z, rfl, h, q⟩
theorem lenL (h : SqL K H p xs) (q : Q (.int xs.length) H) : OW.wLen K [.ref p] H Q := ⟨p, xs, rfl, .inl h, q⟩
theorem lenT (h : SqT K H p xs) (q : Q (.int xs.length) H) : OW.wLen K [.ref p] H Q := ⟨p, xs, rfl, .inr h, q⟩
theorem addS {s d : Str} (h : s.length + d.length ≤ sizeLine) (q : Q (.str (s ++ d)) H) : OW.wAddS (.str s) (.str d) H Q := ⟨s, d, rfl, rfl, h, q⟩
theorem mul {g : Int → Int → V} (h : CMul i j) (q : Q (g i j) H) : rI CMul g (.int i) (.int j) H Q := ⟨i, j, rfl, rfl, h, q⟩
theorem mulW {g : Int → Int → V} (h : CMulW i j) (q : Q (g i j) H) : rI CMulW g (.int i) (.int j) H Q := ⟨i, j, rfl, rfl, h, q⟩
theorem divA {g : Int → Int → V} (h : OW.CDivA i j) (q : Q (g i j) H) : rI OW.CDivA g (.int i) (.int j) H Q := ⟨i, j, rfl, rfl, h, q⟩
theorem divW {g : Int → Int → V} (h : CDivW i j) (q : Q (g i j) H) : rI CDivW g (.int i) (.int j) H Q := ⟨i, j, rfl, rfl, h, q⟩
theorem div {g : Int → Int → V} (h : CDiv i j) (q : Q (g i j) H) : rI CDiv g (.int i) (.int j) H Q := ⟨i, j, rfl, rfl, h, q⟩
theorem pow {g : Int → Int → V} (h : CPow i j) (q : Q (g i j) H) : rI CPow g (.int i) (.int j) H Q := ⟨i, j, rfl, rfl, h, q⟩
theorem mod {g : Int → Int → V} (h : 0 < j) (q : Q (g i j) H) : rI (fun _ j => 0 < j) g (.int i) (.int j) H Q := ⟨i, j, rfl, rfl, h, q⟩
theorem fld {f : Str} (h : ta σ H fun x H1 => ∃ a C dx fs v, x = .ref a ∧ H1 a = some (.ins C dx fs) ∧ Cls K C ∧ NoAttr K C f ∧ fs.lookup f = some v ∧ Q v H1) : tFld K ta f σ H Q := h
theorem fldx {f : Str} {a C dx : Addr} {fs : List (Str × V)} (h : H a = some (.ins C dx fs)) (hc : Cls K C) (hn : NoAttr K C f) (e : fs.lookup f = some v) (q : Q v H) : ∃ a' C dx fs v, V.ref a = .ref a' ∧ H a' = some (.ins C dx fs) ∧ Cls K C ∧ NoAttr K C f ∧ fs.lookup f = some v ∧ Q v H := ⟨a, C, dx, fs, v, rfl, h, hc, hn, e, q⟩
theorem sfld {tv : TE} {f : Str} (h : tv σ H fun y H1 => ta σ H1 fun x H2 => ∃ a C dx fs, x = .ref a ∧ H2 a = some (.ins C dx fs) ∧ Cls K C ∧ NoAttr K C f ∧ fs.length < 1000 ∧ D.nx σ (upd H2 a (.ins C dx (putF f y fs)))) : sFld K ta tv f D σ H := h
theorem sfldx {f : Str} {a C dx : Addr} {fs : List (Str × V)} (h : H a = some (.ins C dx fs)) (hc : Cls K C) (hn : NoAttr K C f) (e : fs.length < 1000) (q : D.nx σ (upd H a (.ins C dx (putF f y fs)))) : ∃ a' C dx fs, V.ref a = .ref a' ∧ H a' = some (.ins C dx fs) ∧ Cls K C ∧ NoAttr K C f ∧ fs.length < 1000 ∧ D.nx σ (upd H a' (.ins C dx (putF f y fs))) := ⟨a, C, dx, fs, rfl, h, hc, hn, e, q⟩
theorem gcd {a b : Int} (q : Q (.int ((Nat.gcd a.natAbs b.natAbs : Nat) : Int)) H) : rGcd [.int a, .int b] H Q := ⟨a, b, rfl, q⟩
theorem make {C : Addr} {sp : Sp} {dvs : List V} {E : XK} {t : TA} (h : t σ H fun vs H1 => ∀ x dx, H1 x = none → H1 dx = none → dx ≠ x → sp (.ref x :: (vs ++ dvs)) (upd (upd H1 dx (.own x)) x (.ins C dx [])) (fun v H2 => v = .non ∧ Q (.ref x) H2) E) : tMake C sp dvs E t σ H Q := h
theorem makeS {C : Addr} {sp : Sp} {dvs : List V} {E : L2.St → XK} {t : TA} (h : t σ H fun vs H1 => ∀ x dx, H1 x = none → H1 dx = none → dx ≠ x → sp (.ref x :: (vs ++ dvs)) (upd (upd H1 dx (.own x)) x (.ins C dx [])) (fun v H2 => v = .non ∧ Q (.ref x) H2) (E σ)) : OW.tMakeS C sp dvs E t σ H Q := h
theorem meth {C : Addr} {m : Str} {sp : Sp} {dvs : List V} {E : XK} {t : TA} (h : ta σ H fun x H1 => ∃ a dx fs, x = .ref a ∧ H1 a = some (.ins C dx fs) ∧ fs.lookup m = none ∧ t σ H1 fun vs H2 => sp (x :: (vs ++ dvs)) H2 Q E) : tMeth C m sp dvs E ta t σ H Q := h
theorem methx {C a dx : Addr} {fs : List (Str × V)} {m : Str} {A : Prop} (h : H a = some (.ins C dx fs)) (e : fs.lookup m = none) (q : A) : ∃ a' dx fs, V.ref a = .ref a' ∧ H a' = some (.ins C dx fs) ∧ fs.lookup m = none ∧ A := ⟨a, dx, fs, rfl, h, e, q⟩
theorem own2 {C a dx b dy : Addr} {fs gs : List (Str × V)} {sp : Sp} {E : XK} (ha : H a = some (.ins C dx fs)) (hb : H b = some (.ins C dy gs)) (q : sp [.ref a, .ref b] H Q E) : OW.rOwn2 C sp E (.ref a) (.ref b) H Q := ⟨a, dx, fs, b, dy, gs, rfl, rfl, ha, hb, q⟩
theorem own1 {C a dx : Addr} {fs : List (Str × V)} {sp : Sp} {E : XK} (ha : H a = some (.ins C dx fs)) (q : sp [.ref a] H Q E) : OW.rOwn1 C sp E (.ref a) H Q := ⟨a, dx, fs, rfl, ha, q⟩
theorem inOwn {C a dx : Addr} {fs : List (Str × V)} {sp : Sp} {E : XK} {neg : Bool} (ha : H a = some (.ins C dx fs)) (q : sp [.ref a, y] H (fun z H' => ∃ b, z = .bl b ∧ Q (.bl (if neg then !b else b)) H') E) : OW.rInOwn C sp E neg y (.ref a) H Q := ⟨a, dx, fs, rfl, ha, q⟩
theorem fmtI (h : i.natAbs.log2 < 1920) (q : Q (.str (toString i)) H) : OW.wFmt (.int i) H Q := .inr ⟨i, rfl, h, q⟩
theorem fmtS {s : Str} (h : s.length ≤ sizeLine) (q : Q (.str s) H) : OW.wFmt (.str s) H Q := .inl ⟨s, rfl, h, q⟩
theorem jcons {t : TE} {ts : List TE} {acc : Str} {Q : Str → Hp → Prop} (h : t σ H fun x H1 => ∃ y : Str, x = .str y ∧ (acc ++ y).length ≤ sizeLine ∧ tJs ts (acc ++ y) σ H1 Q) : tJs (t :: ts) acc σ H Q := h
theorem jnil {acc : Str} {Q : Str → Hp → Prop} (h : Q acc H) : tJs [] acc σ H Q := h
theorem jstr {ts : List TE} {acc s : Str} {Q : Str → Hp → Prop} (h : (acc ++ s).length ≤ sizeLine) (q : tJs ts (acc ++ s) σ H Q) : ∃ y : Str, V.str s = .str y ∧ (acc ++ y).length ≤ sizeLine ∧ tJs ts (acc ++ y) σ H Q := ⟨s, rfl, h, q⟩
theorem l2 {i : Int} {n : Nat} (h : i.natAbs < 2 ^ n) (h0 : 0 < n) (h1 : n ≤ 1920) : i.natAbs.log2 < 1920 := Nat.lt_of_lt_of_le (PySem.Flt.log2_lt_of h0 h) h1
theorem forS {wi : TI} {tb : TS} (h : wi σ H fun J H1 => ∃ W : Nat → Nat → L2.St → Hp → Prop, (∃ m, W 0 m σ H1) ∧ ∀ i m σ H, W i m σ H →
  (J.stop i H ∧ D.nx σ H) ∨ (J.go i H ∧ ∃ N : L2.St → Hp → Prop, (∀ σ' H', N σ' H' → ∃ m', m' < m ∧ W (i + 1) m' σ' H') ∧ ∀ x H', J.yld i H x H' → g x σ H' fun σ2 H2 => tb { D with nx := N, ct := N, bk := D.nx } σ2 H2)) : tFor wi g tb D σ H := h
theorem rng1 {ta : TA} {R : It → Hp → Prop} (h : ta σ H fun vs H1 => ∃ j : Int, vs = [.int j] ∧ -(2 ^ 62) ≤ j ∧ j < 2 ^ 62 ∧ R (Itr 0 j.toNat) H1) : iRng1 ta σ H R := h
theorem rng1x {n : Int} {A : Int → Prop} (h : -(2 ^ 62) ≤ n) (h2 : n < 2 ^ 62) (q : A n) : ∃ j : Int, [V.int n] = [.int j] ∧ -(2 ^ 62) ≤ j ∧ j < 2 ^ 62 ∧ A j := ⟨n, rfl, h, h2, q⟩
theorem rng2 {ta : TA} {R : It → Hp → Prop} (h : ta σ H fun vs H1 => ∃ i j : Int, vs = [.int i, .int j] ∧ (-(2 ^ 62) ≤ i ∧ i < 2 ^ 62 ∧ -(2 ^ 62) ≤ j ∧ j < 2 ^ 62) ∧ R (Itr i (j - i).toNat) H1) : iRng2 ta σ H R := h
theorem rng2x {m n : Int} {A : Int → Int → Prop} (h : -(2 ^ 62) ≤ m ∧ m < 2 ^ 62 ∧ -(2 ^ 62) ≤ n ∧ n < 2 ^ 62) (q : A m n) : ∃ i j : Int, [V.int m, V.int n] = [.int i, .int j] ∧ (-(2 ^ 62) ≤ i ∧ i < 2 ^ 62 ∧ -(2 ^ 62) ≤ j ∧ j < 2 ^ 62) ∧ A i j := ⟨m, n, rfl, h, q⟩
theorem isEE {D : Addr} {y : V} {a : Addr} {cv : Value} (hE : ExcC K D) (hc : ∀ u, RelV y u → u = cv) (e : PySem.W.kitOne K (.ref D) cv = some b) (q : Q (.bl b) H) : OW.rIsEE K a (.ref D) none [.ref a, y] H Q := ⟨D, y, cv, b, rfl, rfl, rfl, hE, hc, e, q⟩
theorem iteNt {A B : Prop} (h : B) : if (!true) = true then A else B := iteF h
theorem iteNf {A B : Prop} (h : A) : if (!false) = true then A else B := iteT h
theorem lc {wi : TI} {tt : TT} {vs : List Nat} (h : wi σ H fun J H1 => ∀ D, H1 D = none → ∃ W : Nat → Nat → Hp → Prop, (∃ m, W 0 m (upd H1 D (.lst []))) ∧ ∀ i m H, W i m H →
    (J.stop i H ∧ Q (.ref D) H) ∨
    (J.go i H ∧ ∃ Nx : Hp → Prop, (∀ H', Nx H' → ∃ m', m' < m ∧ W (i + 1) m' H') ∧
      ∀ x H', J.yld i H x H' → g x (wipe σ vs) H' fun σ2 H2 => wipe σ2 vs = wipe σ vs ∧
        tt σ2 H2 fun b H3 => if b = true then te σ2 H3 fun y H4 => ∃ acc, H4 D = some (.lst acc) ∧ acc.length < sizeLine ∧ Nx (upd H4 D (.lst (acc ++ [y]))) else Nx H3)) : tLc wi g tt te vs σ H Q := h
theorem wip {σ' : L2.St} {vs : List Nat} {A : Prop} (e : wipe σ vs = σ') (q : A) : wipe σ vs = σ' ∧ A := ⟨e, q⟩
theorem yes (q : QB true H) : tYes σ H QB := q
theorem makeN {C : Addr} {n m : Nat} {sp : Sp} {gV : List V → List V → List V} {E : XK} {t tk : TA} (h : t σ H fun vs H1 => tk σ H1 fun zs H2 => vs.length = n ∧ zs.length = m ∧
  ∀ x dx, H2 x = none → H2 dx = none → dx ≠ x → sp (gV (.ref x :: vs) zs) (upd (upd H2 dx (.own x)) x (.ins C dx [])) (fun v H3 => v = .non ∧ Q (.ref x) H3) E) : tMakeN C n m sp gV E t tk σ H Q := h
theorem ite {A B : Prop} (h1 : b = true → A) (h2 : b = false → B) : if b = true then A else B := by
  cases b with
  | true => exact iteT (h1 rfl)
  | false => exact iteF (h2 rfl)
theorem iteD {P A B : Prop} [Decidable P] (h1 : P → A) (h2 : ¬ P → B) : if decide P = true then A else B := ite (fun e => h1 (of_decide_eq_true e)) (fun e => h2 (of_decide_eq_false e))
theorem iteN {A B : Prop} (h1 : b = false → A) (h2 : b = true → B) : if (!b) = true then A else B := by
  cases b with
  | true => exact iteF (h2 rfl)
  | false => exact iteT (h1 rfl)
theorem iteDN {P A B : Prop} [Decidable P] (h1 : ¬ P → A) (h2 : P → B) : if (!decide P) = true then A else B := iteN (fun e => h1 (of_decide_eq_false e)) (fun e => h2 (of_decide_eq_true e))
theorem iteT' {A B : Prop} (e : b = true) (h : A) : if b = true then A else B := by rw [if_pos e]; exact h
theorem iteF' {A B : Prop} (e : b = false) (h : B) : if b = true then A else B := by rw [if_neg (by rw [e]; exact Bool.false_ne_true)]; exact h
theorem iteDT {P A B : Prop} [Decidable P] (e : P) (h : A) : if decide P = true then A else B := iteT' (decide_eq_true e) h
theorem iteDF {P A B : Prop} [Decidable P] (e : ¬ P) (h : B) : if decide P = true then A else B := iteF' (decide_eq_false e) h
theorem iteNT {P A B : Prop} [Decidable P] (e : ¬ P) (h : A) : if (!decide P) = true then A else B := iteT' (by rw [decide_eq_false e]; rfl) h
theorem iteNF {P A B : Prop} [Decidable P] (e : P) (h : B) : if (!decide P) = true then A else B := iteF' (by rw [decide_eq_true e]; rfl) h
theorem v0 {r : L2.St} (q : Q v H) : tVar 0 (some v :: r) H Q := ⟨v, rfl, q⟩
theorem v1 {a0 : Option V} {r : L2.St} (q : Q v H) : tVar 1 (a0 :: some v :: r) H Q := ⟨v, rfl, q⟩
theorem v2 {a0 a1 : Option V} {r : L2.St} (q : Q v H) : tVar 2 (a0 :: a1 :: some v :: r) H Q := ⟨v, rfl, q⟩
theorem v3 {a0 a1 a2 : Option V} {r : L2.St} (q : Q v H) : tVar 3 (a0 :: a1 :: a2 :: some v :: r) H Q := ⟨v, rfl, q⟩
theorem v4 {a0 a1 a2 a3 : Option V} {r : L2.St} (q : Q v H) : tVar 4 (a0 :: a1 :: a2 :: a3 :: some v :: r) H Q := ⟨v, rfl, q⟩
theorem v5 {a0 a1 a2 a3 a4 : Option V} {r : L2.St} (q : Q v H) : tVar 5 (a0 :: a1 :: a2 :: a3 :: a4 :: some v :: r) H Q := ⟨v, rfl, q⟩
theorem v6 {a0 a1 a2 a3 a4 a5 : Option V} {r : L2.St} (q : Q v H) : tVar 6 (a0 :: a1 :: a2 :: a3 :: a4 :: a5 :: some v :: r) H Q := ⟨v, rfl, q⟩
theorem v7 {a0 a1 a2 a3 a4 a5 a6 : Option V} {r : L2.St} (q : Q v H) : tVar 7 (a0 :: a1 :: a2 :: a3 :: a4 :: a5 :: a6 :: some v :: r) H Q := ⟨v, rfl, q⟩
theorem v8 {a0 a1 a2 a3 a4 a5 a6 a7 : Option V} {r : L2.St} (q : Q v H) : tVar 8 (a0 :: a1 :: a2 :: a3 :: a4 :: a5 :: a6 :: a7 :: some v :: r) H Q := ⟨v, rfl, q⟩
theorem v9 {a0 a1 a2 a3 a4 a5 a6 a7 a8 : Option V} {r : L2.St} (q : Q v H) : tVar 9 (a0 :: a1 :: a2 :: a3 :: a4 :: a5 :: a6 :: a7 :: a8 :: some v :: r) H Q := ⟨v, rfl, q⟩
theorem v10 {a0 a1 a2 a3 a4 a5 a6 a7 a8 a9 : Option V} {r : L2.St} (q : Q v H) : tVar 10 (a0 :: a1 :: a2 :: a3 :: a4 :: a5 :: a6 :: a7 :: a8 :: a9 :: some v :: r) H Q := ⟨v, rfl, q⟩
theorem v11 {a0 a1 a2 a3 a4 a5 a6 a7 a8 a9 a10 : Option V} {r : L2.St} (q : Q v H) : tVar 11 (a0 :: a1 :: a2 :: a3 :: a4 :: a5 :: a6 :: a7 :: a8 :: a9 :: a10 :: some v :: r) H Q := ⟨v, rfl, q⟩
theorem v12 {a0 a1 a2 a3 a4 a5 a6 a7 a8 a9 a10 a11 : Option V} {r : L2.St} (q : Q v H) : tVar 12 (a0 :: a1 :: a2 :: a3 :: a4 :: a5 :: a6 :: a7 :: a8 :: a9 :: a10 :: a11 :: some v :: r) H Q := ⟨v, rfl, q⟩
theorem v13 {a0 a1 a2 a3 a4 a5 a6 a7 a8 a9 a10 a11 a12 : Option V} {r : L2.St} (q : Q v H) : tVar 13 (a0 :: a1 :: a2 :: a3 :: a4 :: a5 :: a6 :: a7 :: a8 :: a9 :: a10 :: a11 :: a12 :: some v :: r) H Q := ⟨v, rfl, q⟩
theorem v14 {a0 a1 a2 a3 a4 a5 a6 a7 a8 a9 a10 a11 a12 a13 : Option V} {r : L2.St} (q : Q v H) : tVar 14 (a0 :: a1 :: a2 :: a3 :: a4 :: a5 :: a6 :: a7 :: a8 :: a9 :: a10 :: a11 :: a12 :: a13 :: some v :: r) H Q := ⟨v, rfl, q⟩
theorem v15 {a0 a1 a2 a3 a4 a5 a6 a7 a8 a9 a10 a11 a12 a13 a14 : Option V} {r : L2.St} (q : Q v H) : tVar 15 (a0 :: a1 :: a2 :: a3 :: a4 :: a5 :: a6 :: a7 :: a8 :: a9 :: a10 :: a11 :: a12 :: a13 :: a14 :: some v :: r) H Q := ⟨v, rfl, q⟩
theorem g0 {z : Option V} {r : L2.St} (q : QS (some v :: r) H) : gName 0 v (z :: r) H QS := q
theorem g1 {a0 : Option V} {z : Option V} {r : L2.St} (q : QS (a0 :: some v :: r) H) : gName 1 v (a0 :: z :: r) H QS := q
theorem g2 {a0 a1 : Option V} {z : Option V} {r : L2.St} (q : QS (a0 :: a1 :: some v :: r) H) : gName 2 v (a0 :: a1 :: z :: r) H QS := q
theorem g3 {a0 a1 a2 : Option V} {z : Option V} {r : L2.St} (q : QS (a0 :: a1 :: a2 :: some v :: r) H) : gName 3 v (a0 :: a1 :: a2 :: z :: r) H QS := q
theorem g4 {a0 a1 a2 a3 : Option V} {z : Option V} {r : L2.St} (q : QS (a0 :: a1 :: a2 :: a3 :: some v :: r) H) : gName 4 v (a0 :: a1 :: a2 :: a3 :: z :: r) H QS := q
theorem g5 {a0 a1 a2 a3 a4 : Option V} {z : Option V} {r : L2.St} (q : QS (a0 :: a1 :: a2 :: a3 :: a4 :: some v :: r) H) : gName 5 v (a0 :: a1 :: a2 :: a3 :: a4 :: z :: r) H QS := q
theorem g6 {a0 a1 a2 a3 a4 a5 : Option V} {z : Option V} {r : L2.St} (q : QS (a0 :: a1 :: a2 :: a3 :: a4 :: a5 :: some v :: r) H) : gName 6 v (a0 :: a1 :: a2 :: a3 :: a4 :: a5 :: z :: r) H QS := q
theorem g7 {a0 a1 a2 a3 a4 a5 a6 : Option V} {z : Option V} {r : L2.St} (q : QS (a0 :: a1 :: a2 :: a3 :: a4 :: a5 :: a6 :: some v :: r) H) : gName 7 v (a0 :: a1 :: a2 :: a3 :: a4 :: a5 :: a6 :: z :: r) H QS := q
theorem g8 {a0 a1 a2 a3 a4 a5 a6 a7 : Option V} {z : Option V} {r : L2.St} (q : QS (a0 :: a1 :: a2 :: a3 :: a4 :: a5 :: a6 :: a7 :: some v :: r) H) : gName 8 v (a0 :: a1 :: a2 :: a3 :: a4 :: a5 :: a6 :: a7 :: z :: r) H QS := q
theorem g9 {a0 a1 a2 a3 a4 a5 a6 a7 a8 : Option V} {z : Option V} {r : L2.St} (q : QS (a0 :: a1 :: a2 :: a3 :: a4 :: a5 :: a6 :: a7 :: a8 :: some v :: r) H) : gName 9 v (a0 :: a1 :: a2 :: a3 :: a4 :: a5 :: a6 :: a7 :: a8 :: z :: r) H QS := q
theorem g10 {a0 a1 a2 a3 a4 a5 a6 a7 a8 a9 : Option V} {z : Option V} {r : L2.St} (q : QS (a0 :: a1 :: a2 :: a3 :: a4 :: a5 :: a6 :: a7 :: a8 :: a9 :: some v :: r) H) : gName 10 v (a0 :: a1 :: a2 :: a3 :: a4 :: a5 :: a6 :: a7 :: a8 :: a9 :: z :: r) H QS := q
theorem g11 {a0 a1 a2 a3 a4 a5 a6 a7 a8 a9 a10 : Option V} {z : Option V} {r : L2.St} (q : QS (a0 :: a1 :: a2 :: a3 :: a4 :: a5 :: a6 :: a7 :: a8 :: a9 :: a10 :: some v :: r) H) : gName 11 v (a0 :: a1 :: a2 :: a3 :: a4 :: a5 :: a6 :: a7 :: a8 :: a9 :: a10 :: z :: r) H QS := q
theorem g12 {a0 a1 a2 a3 a4 a5 a6 a7 a8 a9 a10 a11 : Option V} {z : Option V} {r : L2.St} (q : QS (a0 :: a1 :: a2 :: a3 :: a4 :: a5 :: a6 :: a7 :: a8 :: a9 :: a10 :: a11 :: some v :: r) H) : gName 12 v (a0 :: a1 :: a2 :: a3 :: a4 :: a5 :: a6 :: a7 :: a8 :: a9 :: a10 :: a11 :: z :: r) H QS := q
theorem g13 {a0 a1 a2 a3 a4 a5 a6 a7 a8 a9 a10 a11 a12 : Option V} {z : Option V} {r : L2.St} (q : QS (a0 :: a1 :: a2 :: a3 :: a4 :: a5 :: a6 :: a7 :: a8 :: a9 :: a10 :: a11 :: a12 :: some v :: r) H) : gName 13 v (a0 :: a1 :: a2 :: a3 :: a4 :: a5 :: a6 :: a7 :: a8 :: a9 :: a10 :: a11 :: a12 :: z :: r) H QS := q
theorem g14 {a0 a1 a2 a3 a4 a5 a6 a7 a8 a9 a10 a11 a12 a13 : Option V} {z : Option V} {r : L2.St} (q : QS (a0 :: a1 :: a2 :: a3 :: a4 :: a5 :: a6 :: a7 :: a8 :: a9 :: a10 :: a11 :: a12 :: a13 :: some v :: r) H) : gName 14 v (a0 :: a1 :: a2 :: a3 :: a4 :: a5 :: a6 :: a7 :: a8 :: a9 :: a10 :: a11 :: a12 :: a13 :: z :: r) H QS := q
theorem g15 {a0 a1 a2 a3 a4 a5 a6 a7 a8 a9 a10 a11 a12 a13 a14 : Option V} {z : Option V} {r : L2.St} (q : QS (a0 :: a1 :: a2 :: a3 :: a4 :: a5 :: a6 :: a7 :: a8 :: a9 :: a10 :: a11 :: a12 :: a13 :: a14 :: some v :: r) H) : gName 15 v (a0 :: a1 :: a2 :: a3 :: a4 :: a5 :: a6 :: a7 :: a8 :: a9 :: a10 :: a11 :: a12 :: a13 :: a14 :: z :: r) H QS := q
end
end R

namespace DP
open PySem PySem.Spec PyProof.Rows L2

def topS (i : Nat) : Stmt := PySem.Challenge.pw_dampspells_k00_ratios_exact.main.body.getD i (.Pass ⟨0, 0, 0, 0⟩)
abbrev s_f_ceil_div : Stmt := topS 7
abbrev N_f_ceil_div : List Str := ["x", "y"]
theorem sc_f_ceil_div : FnScope ["x", "y"] ["x", "y"] (defScope s_f_ceil_div) := ⟨rfl, rfl, rfl, by decide +kernel, rfl, by decide +kernel, by decide +kernel⟩
abbrev s_Ratio_init : Stmt := inClass (topS 9) 0
abbrev N_Ratio_init : List Str := ["self", "top", "bottom", "common"]
theorem sc_Ratio_init : FnScope ["self", "top", "bottom", "common"] ["self", "top", "bottom"] (defScope s_Ratio_init) := ⟨rfl, rfl, rfl, by decide +kernel, rfl, by decide +kernel, by decide +kernel⟩
abbrev s_Ratio_add : Stmt := inClass (topS 9) 1
abbrev N_Ratio_add : List Str := ["self", "other"]
theorem sc_Ratio_add : FnScope ["self", "other"] ["self", "other"] (defScope s_Ratio_add) := ⟨rfl, rfl, rfl, by decide +kernel, rfl, by decide +kernel, by decide +kernel⟩
abbrev s_Ratio_sub : Stmt := inClass (topS 9) 2
abbrev N_Ratio_sub : List Str := ["self", "other"]
theorem sc_Ratio_sub : FnScope ["self", "other"] ["self", "other"] (defScope s_Ratio_sub) := ⟨rfl, rfl, rfl, by decide +kernel, rfl, by decide +kernel, by decide +kernel⟩
abbrev s_Ratio_mul : Stmt := inClass (topS 9) 3
abbrev N_Ratio_mul : List Str := ["self", "other"]
theorem sc_Ratio_mul : FnScope ["self", "other"] ["self", "other"] (defScope s_Ratio_mul) := ⟨rfl, rfl, rfl, by decide +kernel, rfl, by decide +kernel, by decide +kernel⟩
abbrev s_Ratio_neg : Stmt := inClass (topS 9) 4
abbrev N_Ratio_neg : List Str := ["self"]
theorem sc_Ratio_neg : FnScope ["self"] ["self"] (defScope s_Ratio_neg) := ⟨rfl, rfl, rfl, by decide +kernel, rfl, by decide +kernel, by decide +kernel⟩
abbrev s_Ratio_eq : Stmt := inClass (topS 9) 5
abbrev N_Ratio_eq : List Str := ["self", "other"]
theorem sc_Ratio_eq : FnScope ["self", "other"] ["self", "other"] (defScope s_Ratio_eq) := ⟨rfl, rfl, rfl, by decide +kernel, rfl, by decide +kernel, by decide +kernel⟩
abbrev s_Ratio_compare : Stmt := inClass (topS 9) 6
abbrev N_Ratio_compare : List Str := ["self", "other", "left", "right"]
theorem sc_Ratio_compare : FnScope ["self", "other", "left", "right"] ["self", "other"] (defScope s_Ratio_compare) := ⟨rfl, rfl, rfl, by decide +kernel, rfl, by decide +kernel, by decide +kernel⟩
abbrev s_Ratio_floor : Stmt := inClass (topS 9) 7
abbrev N_Ratio_floor : List Str := ["self"]
theorem sc_Ratio_floor : FnScope ["self"] ["self"] (defScope s_Ratio_floor) := ⟨rfl, rfl, rfl, by decide +kernel, rfl, by decide +kernel, by decide +kernel⟩
abbrev s_Ratio_ceiling : Stmt := inClass (topS 9) 8
abbrev N_Ratio_ceiling : List Str := ["self"]
theorem sc_Ratio_ceiling : FnScope ["self"] ["self"] (defScope s_Ratio_ceiling) := ⟨rfl, rfl, rfl, by decide +kernel, rfl, by decide +kernel, by decide +kernel⟩
abbrev s_Ratio_text : Stmt := inClass (topS 9) 9
abbrev N_Ratio_text : List Str := ["self"]
theorem sc_Ratio_text : FnScope ["self"] ["self"] (defScope s_Ratio_text) := ⟨rfl, rfl, rfl, by decide +kernel, rfl, by decide +kernel, by decide +kernel⟩
abbrev s_l_cell : Stmt := topS 11
abbrev N_l_cell : List Str := ["script", "k"]
theorem sc_l_cell : FnScope ["script", "k"] ["script", "k"] (defScope s_l_cell) := ⟨rfl, rfl, rfl, by decide +kernel, rfl, by decide +kernel, by decide +kernel⟩
abbrev s_l_pool : Stmt := topS 12
abbrev N_l_pool : List Str := ["cell"]
theorem sc_l_pool : FnScope ["cell"] ["cell"] (defScope s_l_pool) := ⟨rfl, rfl, rfl, by decide +kernel, rfl, by decide +kernel, by decide +kernel⟩
abbrev s_l_take : Stmt := topS 13
abbrev N_l_take : List Str := ["pool", "size", "digit", "x"]
theorem sc_l_take : FnScope ["pool", "size", "digit", "x"] ["pool", "size"] (defScope s_l_take) := ⟨rfl, rfl, rfl, by decide +kernel, rfl, by decide +kernel, by decide +kernel⟩
abbrev s_l_int : Stmt := topS 14
abbrev N_l_int : List Str := ["x"]
theorem sc_l_int : FnScope ["x"] ["x"] (defScope s_l_int) := ⟨rfl, rfl, rfl, by decide +kernel, rfl, by decide +kernel, by decide +kernel⟩
abbrev s_l_number : Stmt := topS 15
abbrev N_l_number : List Str := ["pool", "parts", "number", "k"]
theorem sc_l_number : FnScope ["pool", "parts", "number", "k"] ["pool", "parts"] (defScope s_l_number) := ⟨rfl, rfl, rfl, by decide +kernel, rfl, by decide +kernel, by decide +kernel⟩
abbrev s_l_terms : Stmt := topS 16
abbrev N_l_terms : List Str := ["pool", "style", "over", "under", "parts"]
theorem sc_l_terms : FnScope ["pool", "style", "over", "under", "parts"] ["pool"] (defScope s_l_terms) := ⟨rfl, rfl, rfl, by decide +kernel, rfl, by decide +kernel, by decide +kernel⟩
abbrev s_l_passed : Stmt := topS 17
abbrev N_l_passed : List Str := ["pool", "terms", "factor", "way"]
theorem sc_l_passed : FnScope ["pool", "terms", "factor", "way"] ["pool", "terms"] (defScope s_l_passed) := ⟨rfl, rfl, rfl, by decide +kernel, rfl, by decide +kernel, by decide +kernel⟩
abbrev s_l_nearer : Stmt := topS 18
abbrev N_l_nearer : List Str := ["pair"]
theorem sc_l_nearer : FnScope ["pair"] ["pair"] (defScope s_l_nearer) := ⟨rfl, rfl, rfl, by decide +kernel, rfl, by decide +kernel, by decide +kernel⟩
abbrev s_l_coprime : Stmt := topS 19
abbrev N_l_coprime : List Str := ["x", "y", "k", "rest"]
theorem sc_l_coprime : FnScope ["x", "y", "k", "rest"] ["x", "y"] (defScope s_l_coprime) := ⟨rfl, rfl, rfl, by decide +kernel, rfl, by decide +kernel, by decide +kernel⟩
abbrev s_l_holds : Stmt := topS 20
abbrev N_l_holds : List Str := ["fraction", "over", "under"]
theorem sc_l_holds : FnScope ["fraction", "over", "under"] ["fraction", "over", "under"] (defScope s_l_holds) := ⟨rfl, rfl, rfl, by decide +kernel, rfl, by decide +kernel, by decide +kernel⟩
abbrev s_l_alone : Stmt := topS 21
abbrev N_l_alone : List Str := ["fraction", "pair", "over", "under", "low", "high", "due", "words"]
theorem sc_l_alone : FnScope ["fraction", "pair", "over", "under", "low", "high", "due", "words"] ["fraction", "pair"] (defScope s_l_alone) := ⟨rfl, rfl, rfl, by decide +kernel, rfl, by decide +kernel, by decide +kernel⟩
abbrev s_l_sums : Stmt := topS 22
abbrev N_l_sums : List Str := ["x", "y", "one", "other", "left", "right", "under"]
theorem sc_l_sums : FnScope ["x", "y", "one", "other", "left", "right", "under"] ["x", "y", "one", "other"] (defScope s_l_sums) := ⟨rfl, rfl, rfl, by decide +kernel, rfl, by decide +kernel, by decide +kernel⟩
abbrev s_l_equals : Stmt := topS 23
abbrev N_l_equals : List Str := ["x", "y", "due", "actual"]
theorem sc_l_equals : FnScope ["x", "y", "due", "actual"] ["x", "y", "due"] (defScope s_l_equals) := ⟨rfl, rfl, rfl, by decide +kernel, rfl, by decide +kernel, by decide +kernel⟩
abbrev s_l_compares : Stmt := topS 24
abbrev N_l_compares : List Str := ["x", "y", "due", "actual"]
theorem sc_l_compares : FnScope ["x", "y", "due", "actual"] ["x", "y", "due"] (defScope s_l_compares) := ⟨rfl, rfl, rfl, by decide +kernel, rfl, by decide +kernel, by decide +kernel⟩
abbrev s_l_order : Stmt := topS 25
abbrev N_l_order : List Str := ["x", "y", "one", "other", "gap", "due", "again"]
theorem sc_l_order : FnScope ["x", "y", "one", "other", "gap", "due", "again"] ["x", "y", "one", "other"] (defScope s_l_order) := ⟨rfl, rfl, rfl, by decide +kernel, rfl, by decide +kernel, by decide +kernel⟩
abbrev s_l_refuses : Stmt := topS 26
abbrev N_l_refuses : List Str := ["over", "refused", "kin", "e"]
theorem sc_l_refuses : FnScope ["over", "refused", "kin", "e"] ["over"] (defScope s_l_refuses) := ⟨rfl, rfl, rfl, by decide +kernel, rfl, by decide +kernel, by decide +kernel⟩
abbrev s_l_law : Stmt := topS 27
abbrev N_l_law : List Str := ["script", "pools", "terms", "one", "way", "two", "three", "x", "y", "z", "whole", "parts", "over", "under", "k"]
theorem sc_l_law : FnScope ["script", "pools", "terms", "one", "way", "two", "three", "x", "y", "z", "whole", "parts", "over", "under", "k"] ["script"] (defScope s_l_law) := ⟨rfl, rfl, rfl, by decide +kernel, rfl, by decide +kernel, by decide +kernel⟩
structure S_DampError (K : PySem.W.Frag) (mg : Str → Option Value) (C : Addr) : Prop where
  mg : (mg "DampError" = some (.ref C))
  x : (PySem.W.excIn K C [.type "ValueError", .type "Exception", .type "BaseException", .type "object"] "ValueError.__new__" = true)
  kp : (PySem.W.keepIn K (.ref C) = true)
  b : (PySem.W.subIn K (.ref C) (.type "BaseException") = some true)
  t : (PySem.W.typeIn K (.ref C) = some (.type "type"))
  i : (PySem.W.isClsIn K C = true)
  s : (PySem.W.subIn K (.ref C) (.ref C) = some true)
  hg : (PySem.W.findIn K (.ref C) "__getattribute__" = some (some (.builtin "BaseException.__getattribute__")))
  hk : (PySem.W.findIn K (.ref C) "__getattr__" = some none)
  hd : (PySem.W.hasDictIn K C = true)
  ha : (PySem.W.findIn K (.ref C) "__class__" = some (some (.builtin "object.__class__")))
  hn : (PySem.W.specialIn K (.builtin "object.__class__") "__get__" = some (some (.builtin "getset_descriptor.__get__")))
  ht : (PySem.W.takesIn K (.builtin "object.__class__") = some true)
  hm : (PySem.W.mroIn K C (.type "object") = some true)
theorem S_DampError.ex {K : PySem.W.Frag} {mg : Str → Option Value} {C : Addr} (T : S_DampError K mg C) : ExcC K C := ⟨T.hg, T.hk, T.b, T.hd, T.ha, T.hn, T.ht, T.hm⟩
theorem S_DampError.te {K : PySem.W.Frag} {mg : Str → Option Value} {C : Addr} (T : S_DampError K mg C) : PySem.W.exmOne K (.ref C) (.ref C) = some true := PySem.W.exm_ref T.b T.hd T.t T.s
structure S_BadRatio (K : PySem.W.Frag) (mg : Str → Option Value) (C : Addr) : Prop where
  mg : (mg "BadRatio" = some (.ref C))
  x : (PySem.W.excIn K C [.type "ValueError", .type "Exception", .type "BaseException", .type "object"] "ValueError.__new__" = true)
  kp : (PySem.W.keepIn K (.ref C) = true)
  b : (PySem.W.subIn K (.ref C) (.type "BaseException") = some true)
  t : (PySem.W.typeIn K (.ref C) = some (.type "type"))
  i : (PySem.W.isClsIn K C = true)
  s : (PySem.W.subIn K (.ref C) (.ref C) = some true)
  hg : (PySem.W.findIn K (.ref C) "__getattribute__" = some (some (.builtin "BaseException.__getattribute__")))
  hk : (PySem.W.findIn K (.ref C) "__getattr__" = some none)
  hd : (PySem.W.hasDictIn K C = true)
  ha : (PySem.W.findIn K (.ref C) "__class__" = some (some (.builtin "object.__class__")))
  hn : (PySem.W.specialIn K (.builtin "object.__class__") "__get__" = some (some (.builtin "getset_descriptor.__get__")))
  ht : (PySem.W.takesIn K (.builtin "object.__class__") = some true)
  hm : (PySem.W.mroIn K C (.type "object") = some true)
theorem S_BadRatio.ex {K : PySem.W.Frag} {mg : Str → Option Value} {C : Addr} (T : S_BadRatio K mg C) : ExcC K C := ⟨T.hg, T.hk, T.b, T.hd, T.ha, T.hn, T.ht, T.hm⟩
theorem S_BadRatio.te {K : PySem.W.Frag} {mg : Str → Option Value} {C : Addr} (T : S_BadRatio K mg C) : PySem.W.exmOne K (.ref C) (.ref C) = some true := PySem.W.exm_ref T.b T.hd T.t T.s
structure S_BadNumber (K : PySem.W.Frag) (mg : Str → Option Value) (C : Addr) : Prop where
  mg : (mg "BadNumber" = some (.ref C))
  x : (PySem.W.excIn K C [.type "ValueError", .type "Exception", .type "BaseException", .type "object"] "ValueError.__new__" = true)
  kp : (PySem.W.keepIn K (.ref C) = true)
  b : (PySem.W.subIn K (.ref C) (.type "BaseException") = some true)
  t : (PySem.W.typeIn K (.ref C) = some (.type "type"))
  i : (PySem.W.isClsIn K C = true)
  s : (PySem.W.subIn K (.ref C) (.ref C) = some true)
  hg : (PySem.W.findIn K (.ref C) "__getattribute__" = some (some (.builtin "BaseException.__getattribute__")))
  hk : (PySem.W.findIn K (.ref C) "__getattr__" = some none)
  hd : (PySem.W.hasDictIn K C = true)
  ha : (PySem.W.findIn K (.ref C) "__class__" = some (some (.builtin "object.__class__")))
  hn : (PySem.W.specialIn K (.builtin "object.__class__") "__get__" = some (some (.builtin "getset_descriptor.__get__")))
  ht : (PySem.W.takesIn K (.builtin "object.__class__") = some true)
  hm : (PySem.W.mroIn K C (.type "object") = some true)
theorem S_BadNumber.ex {K : PySem.W.Frag} {mg : Str → Option Value} {C : Addr} (T : S_BadNumber K mg C) : ExcC K C := ⟨T.hg, T.hk, T.b, T.hd, T.ha, T.hn, T.ht, T.hm⟩
theorem S_BadNumber.te {K : PySem.W.Frag} {mg : Str → Option Value} {C : Addr} (T : S_BadNumber K mg C) : PySem.W.exmOne K (.ref C) (.ref C) = some true := PySem.W.exm_ref T.b T.hd T.t T.s
structure S_TooLarge (K : PySem.W.Frag) (mg : Str → Option Value) (C : Addr) : Prop where
  mg : (mg "TooLarge" = some (.ref C))
  x : (PySem.W.excIn K C [.type "ValueError", .type "Exception", .type "BaseException", .type "object"] "ValueError.__new__" = true)
  kp : (PySem.W.keepIn K (.ref C) = true)
  b : (PySem.W.subIn K (.ref C) (.type "BaseException") = some true)
  t : (PySem.W.typeIn K (.ref C) = some (.type "type"))
  i : (PySem.W.isClsIn K C = true)
  s : (PySem.W.subIn K (.ref C) (.ref C) = some true)
  hg : (PySem.W.findIn K (.ref C) "__getattribute__" = some (some (.builtin "BaseException.__getattribute__")))
  hk : (PySem.W.findIn K (.ref C) "__getattr__" = some none)
  hd : (PySem.W.hasDictIn K C = true)
  ha : (PySem.W.findIn K (.ref C) "__class__" = some (some (.builtin "object.__class__")))
  hn : (PySem.W.specialIn K (.builtin "object.__class__") "__get__" = some (some (.builtin "getset_descriptor.__get__")))
  ht : (PySem.W.takesIn K (.builtin "object.__class__") = some true)
  hm : (PySem.W.mroIn K C (.type "object") = some true)
theorem S_TooLarge.ex {K : PySem.W.Frag} {mg : Str → Option Value} {C : Addr} (T : S_TooLarge K mg C) : ExcC K C := ⟨T.hg, T.hk, T.b, T.hd, T.ha, T.hn, T.ht, T.hm⟩
theorem S_TooLarge.te {K : PySem.W.Frag} {mg : Str → Option Value} {C : Addr} (T : S_TooLarge K mg C) : PySem.W.exmOne K (.ref C) (.ref C) = some true := PySem.W.exm_ref T.b T.hd T.t T.s
structure S_Ratio (K : PySem.W.Frag) (mg : Str → Option Value) (C : Addr) : Prop where
  pg : (PySem.W.plainGet K C Str.empty = true)
  hd : (PySem.W.hasDictIn K C = true)
  po : (PySem.W.plainOver K C = true)
  sa : (PySem.W.findIn K (.ref C) "__setattr__" = some (some (.builtin "object.__setattr__")))
  mg : (mg "Ratio" = some (.ref C))
  sf : (PySem.W.selfFirst K C = true)
  nf : (PySem.W.notFirst K C (.ref C) = true)
  ha : (PySem.W.findIn K (.ref C) "__class__" = some (some (.builtin "object.__class__")))
  hn : (PySem.W.specialIn K (.builtin "object.__class__") "__get__" = some (some (.builtin "getset_descriptor.__get__")))
  ht : (PySem.W.takesIn K (.builtin "object.__class__") = some true)
  hm : (PySem.W.mroIn K C (.type "object") = some true)
  kp : (PySem.W.keepIn K (.ref C) = true)
  mkk : (PySem.W.makesIn K C = true)
  n_top : (PySem.W.findIn K (.ref C) "top" = some none)
  n_bottom : (PySem.W.findIn K (.ref C) "bottom" = some none)
theorem S_Ratio.cl {K : PySem.W.Frag} {mg : Str → Option Value} {C : Addr} (T : S_Ratio K mg C) : Cls K C := ⟨T.pg, T.hd, T.po, T.sa⟩
theorem S_Ratio.me {K : PySem.W.Frag} {mg : Str → Option Value} {C : Addr} (_ : S_Ratio K mg C) : PySem.W.kitOne K (.ref C) (.ref C) = some true := by simp [PySem.W.kitOne]
/-- an object that is tracked nowhere ahead stands apart -/
theorem same_new {H H1 : Hp} {p : Addr} {o : HO} (s : Same H H1) (h : H p = none) : Same H (upd H1 p o) := fun b u e => by
  rw [upd_ne (ne_of_none e h)]
  exact s b u e
theorem same_upd {H : Hp} {p : Addr} {o : HO} (h : H p = none) : Same H (upd H p o) := same_new (Same.refl H) h
/-- a pool; a heap in which only the object at a may have changed -/
def PoolAt (H : Hp) (a : Addr) : Prop := ∃ p0 p1 p2 : Int, H a = some (.lst [.int p0, .int p1, .int p2])
def Chg (a : Addr) (H H' : Hp) : Prop := ∀ b o, b ≠ a → H b = some o → H' b = some o
theorem Chg.refl (a : Addr) (H : Hp) : Chg a H H := fun _ _ _ h => h
theorem Chg.trans {a : Addr} {H H1 H2 : Hp} (x : Chg a H H1) (y : Chg a H1 H2) : Chg a H H2 := fun b o n h => y b o n (x b o n h)
theorem Chg.upd {a : Addr} {H : Hp} {o : HO} : Chg a H (upd H a o) := fun b u n h => by
  rw [upd_ne n]
  exact h
theorem Chg.new {a r : Addr} {H H1 : Hp} {o : HO} (x : Chg a H H1) (h : H1 r = none) (ha : (H1 a).isSome = true) : Chg a H (L2.upd H1 r o) := fun b u n e => by
  have e1 := x b u n e
  rw [upd_ne (ne_of_none e1 h)]
  exact e1
theorem PoolAt.some {H : Hp} {a : Addr} (h : PoolAt H a) : (H a).isSome = true := by
  obtain ⟨_, _, _, e⟩ := h
  rw [e]
  rfl
theorem PoolAt.keep {H H' : Hp} {a : Addr} (s : Same H H') (h : PoolAt H a) : PoolAt H' a := by
  obtain ⟨p0, p1, p2, e⟩ := h
  exact ⟨p0, p1, p2, s _ _ e⟩
theorem Same.chg {a : Addr} {H H' : Hp} (s : Same H H') : Chg a H H' := fun b o _ h => s b o h
theorem Chg.free {a r : Addr} {H H' : Hp} (x : Chg a H H') (ha : (H' a).isSome = true) (h : H' r = none) : H r = none := by
  cases q : H r with
  | none => rfl
  | some o =>
    by_cases e : r = a
    · subst e
      rw [h] at ha
      cases ha
    · rw [x r o e q] at h
      cases h
theorem PoolAt.ne {H : Hp} {a r : Addr} (h : PoolAt H a) (n : H r = none) : r ≠ a := by
  rintro rfl
  obtain ⟨_, _, _, e⟩ := h
  rw [n] at e
  cases e

def sp_l_cell (K : PySem.W.Frag) : Sp := fun vs H Q _ => ∃ (a : Addr) (ns : List Int) (k : Nat), vs = [.ref a, .int k] ∧ SqL K H a (ns.map V.int) ∧ ∀ i : Int, Q (.int i) H

def sp_l_pool : Sp := fun vs H Q _ => ∃ (i : Int), vs = [.int i] ∧ ∀ (p : Addr) (p0 p1 p2 : Int), H p = none → Q (.ref p) (upd H p (.lst [.int p0, .int p1, .int p2]))

def sp_l_take : Sp := fun vs H Q _ => ∃ (a : Addr) (n : Int), vs = [.ref a, .int n] ∧ PoolAt H a ∧ 0 < n ∧ n ≤ 1000000 ∧
  ∀ (d : Int) (H' : Hp), 0 ≤ d → d < n → PoolAt H' a → Chg a H H' → Q (.int d) H'

def sp_l_int (K : PySem.W.Frag) : Sp := fun vs H Q _ => ∃ i : Int, vs = [.int i] ∧ Q (.bl true) H

/-- a fraction in lowest terms with a positive bottom -/
def nrm (t b : Int) : Int × Int :=
  let g : Int := ((Nat.gcd t.natAbs b.natAbs : Nat) : Int)
  let c : Int := if b < 0 then -g else g
  (t.fdiv c, b.fdiv c)
def RatAt (C : Addr) (H : Hp) (p : Addr) (t b : Int) : Prop := ∃ dx, H p = some (.ins C dx [("top", .int t), ("bottom", .int b)])
theorem RatAt.keep {C : Addr} {H H' : Hp} {p : Addr} {t b : Int} (s : Same H H') (h : RatAt C H p t b) : RatAt C H' p t b := by
  obtain ⟨dx, h⟩ := h
  exact ⟨dx, s _ _ h⟩
/-- a fraction that is told right -/
structure Good (t b : Int) : Prop where
  pos : 0 < b
  cop : Nat.gcd t.natAbs b.natAbs = 1
theorem nrm_spec {t b : Int} (hb : b ≠ 0) : Good (nrm t b).1 (nrm t b).2 ∧ (nrm t b).1 * b = t * (nrm t b).2 ∧ (nrm t b).1.natAbs ≤ t.natAbs ∧ (nrm t b).2.natAbs ≤ b.natAbs := by
  have hg0 : 0 < Nat.gcd t.natAbs b.natAbs := Nat.gcd_pos_of_pos_right _ (by omega)
  obtain ⟨t1, ht1⟩ := Nat.gcd_dvd_left t.natAbs b.natAbs
  obtain ⟨b1, hb1⟩ := Nat.gcd_dvd_right t.natAbs b.natAbs
  have hc1 : Nat.gcd t1 b1 = 1 := by
    have e := Nat.gcd_mul_left (Nat.gcd t.natAbs b.natAbs) t1 b1
    rw [← ht1, ← hb1] at e
    exact Nat.eq_of_mul_eq_mul_left hg0 (by omega)
  generalize hg : Nat.gcd t.natAbs b.natAbs = g at *
  have hgi : ((g : Nat) : Int) ≠ 0 := by omega
  -- t = st * g * t1, b = sb * g * b1
  obtain ⟨st, hst, et⟩ : ∃ st : Int, (st = 1 ∨ st = -1) ∧ t = (g : Int) * (st * t1) := by
    rcases Int.natAbs_eq t with e | e
    · exact ⟨1, .inl rfl, by rw [e, ht1, Int.natCast_mul]; grind⟩
    · exact ⟨-1, .inr rfl, by rw [e, ht1, Int.natCast_mul]; grind⟩
  have hb1p : 0 < b1 := by
    rcases Nat.eq_zero_or_pos b1 with z | z
    · subst z; simp at hb1; omega
    · exact z
  by_cases hneg : b < 0
  · have eb : b = -((g : Int)) * (b1 : Int) := by
      have : (b.natAbs : Int) = (g : Int) * b1 := by rw [hb1]; simp
      rw [Int.neg_mul, ← this]; omega
    have en : nrm t b = (-(st * t1), (b1 : Int)) := by
      unfold nrm
      simp only [hg, if_pos hneg]
      have h1 : t.fdiv (-(g : Int)) = -(st * t1) := by
        rw [show t = (-(g : Int)) * (-(st * t1)) by rw [et]; grind]
        exact Int.mul_fdiv_cancel_left _ (by omega)
      have h2 : b.fdiv (-(g : Int)) = (b1 : Int) := by
        rw [eb]; exact Int.mul_fdiv_cancel_left _ (by omega)
      rw [h1, h2]
    rw [en]
    have ha : (-(st * (t1 : Int))).natAbs = t1 := by rcases hst with rfl | rfl <;> simp
    refine ⟨⟨by show (0 : Int) < b1; omega, by show Nat.gcd (-(st * (t1 : Int))).natAbs (b1 : Int).natAbs = 1; rw [ha]; simpa using hc1⟩, ?_, ?_, ?_⟩
    · show -(st * (t1 : Int)) * b = t * b1
      rw [eb, et]
      grind
    · show (-(st * (t1 : Int))).natAbs ≤ t.natAbs
      rw [ha, ht1]
      exact Nat.le_mul_of_pos_left _ hg0
    · show (b1 : Int).natAbs ≤ b.natAbs
      rw [hb1]
      simpa using Nat.le_mul_of_pos_left b1 hg0
  · have eb : b = (g : Int) * (b1 : Int) := by
      have : (b.natAbs : Int) = (g : Int) * b1 := by rw [hb1]; simp
      rw [← this]; omega
    have en : nrm t b = (st * t1, (b1 : Int)) := by
      unfold nrm
      simp only [hg, if_neg hneg]
      have h1 : t.fdiv (g : Int) = st * t1 := by
        rw [et]; exact Int.mul_fdiv_cancel_left _ (by omega)
      have h2 : b.fdiv (g : Int) = (b1 : Int) := by
        rw [eb]; exact Int.mul_fdiv_cancel_left _ (by omega)
      rw [h1, h2]
    rw [en]
    have ha : (st * (t1 : Int)).natAbs = t1 := by rcases hst with rfl | rfl <;> simp
    refine ⟨⟨by show (0 : Int) < b1; omega, by show Nat.gcd (st * (t1 : Int)).natAbs (b1 : Int).natAbs = 1; rw [ha]; simpa using hc1⟩, ?_, ?_, ?_⟩
    · show st * (t1 : Int) * b = t * b1
      rw [eb, et]
      grind
    · show (st * (t1 : Int)).natAbs ≤ t.natAbs
      rw [ha, ht1]
      exact Nat.le_mul_of_pos_left _ hg0
    · show (b1 : Int).natAbs ≤ b.natAbs
      rw [hb1]
      simpa using Nat.le_mul_of_pos_left b1 hg0
theorem lg {i : Int} {n : Nat} (h : i.natAbs < 2 ^ n) (hn : 0 < n) : i.natAbs.log2 < n := PySem.Flt.log2_lt_of hn h
theorem put_tb (t b : Int) : putF "bottom" (.int b) (putF "top" (.int t) []) = [(("top" : Str), V.int t), ("bottom", .int b)] := by
  rfl

def sp_f_ceil_div : Sp := fun vs H Q _ => ∃ x y : Int, vs = [.int x, .int y] ∧ 0 < y ∧ y.natAbs < 2 ^ 8000 ∧ Q (.int (-((-x).fdiv y))) H

def sp_Ratio_init (C CB : Addr) : Sp := fun vs H Q E => ∃ (p dx : Addr) (t b : Int), vs = [.ref p, .int t, .int b] ∧ H p = some (.ins C dx []) ∧ b.natAbs < 2 ^ 8000 ∧
  (b = 0 → E (.ref CB) none H) ∧ (b ≠ 0 → Q .non (upd H p (.ins C dx [("top", .int (nrm t b).1), ("bottom", .int (nrm t b).2)])))

theorem mk_ratio {C CB : Addr} {H : Hp} {Q : Addr → Hp → Prop} {t b : Int} {E : XK} (hb : b ≠ 0) (hs : b.natAbs < 2 ^ 8000) (k : ∀ (r : Addr) (H' : Hp), H r = none → Same H H' → RatAt C H' r (nrm t b).1 (nrm t b).2 → Q r H') :
    ∀ x dx, H x = none → H dx = none → dx ≠ x → sp_Ratio_init C CB [.ref x, .int t, .int b] (upd (upd H dx (.own x)) x (.ins C dx [])) (fun v H2 => v = .non ∧ Q x H2) E := by
  intro x dx hx hdx hne
  refine ⟨x, dx, t, b, rfl, upd_same, hs, fun e => absurd e hb, fun _ => ⟨rfl, ?_⟩⟩
  refine k x _ hx ?_ ⟨dx, upd_same⟩
  rw [upd_upd]
  exact same_new (same_upd hdx) hx

def sp_Ratio_add (C : Addr) : Sp := fun vs H Q _ => ∃ (p q : Addr) (a b c d : Int), vs = [.ref p, .ref q] ∧ RatAt C H p a b ∧ RatAt C H q c d ∧ 0 < b ∧ 0 < d ∧
  a.natAbs < 2 ^ 700 ∧ b.natAbs < 2 ^ 700 ∧ c.natAbs < 2 ^ 700 ∧ d.natAbs < 2 ^ 700 ∧
  ∀ (r : Addr) (H' : Hp), H r = none → Same H H' → RatAt C H' r (nrm (a * d + c * b) (b * d)).1 (nrm (a * d + c * b) (b * d)).2 → Q (.ref r) H'

def sp_Ratio_sub (C : Addr) : Sp := fun vs H Q _ => ∃ (p q : Addr) (a b c d : Int), vs = [.ref p, .ref q] ∧ RatAt C H p a b ∧ RatAt C H q c d ∧ 0 < b ∧ 0 < d ∧
  a.natAbs < 2 ^ 700 ∧ b.natAbs < 2 ^ 700 ∧ c.natAbs < 2 ^ 700 ∧ d.natAbs < 2 ^ 700 ∧
  ∀ (r : Addr) (H' : Hp), H r = none → Same H H' → RatAt C H' r (nrm (a * d - c * b) (b * d)).1 (nrm (a * d - c * b) (b * d)).2 → Q (.ref r) H'

def sp_Ratio_mul (C : Addr) : Sp := fun vs H Q _ => ∃ (p q : Addr) (a b c d : Int), vs = [.ref p, .ref q] ∧ RatAt C H p a b ∧ RatAt C H q c d ∧ 0 < b ∧ 0 < d ∧
  a.natAbs < 2 ^ 700 ∧ b.natAbs < 2 ^ 700 ∧ c.natAbs < 2 ^ 700 ∧ d.natAbs < 2 ^ 700 ∧
  ∀ (r : Addr) (H' : Hp), H r = none → Same H H' → RatAt C H' r (nrm (a * c) (b * d)).1 (nrm (a * c) (b * d)).2 → Q (.ref r) H'

def sp_Ratio_neg (C : Addr) : Sp := fun vs H Q _ => ∃ (p : Addr) (a b : Int), vs = [.ref p] ∧ RatAt C H p a b ∧ 0 < b ∧ b.natAbs < 2 ^ 700 ∧
  ∀ (r : Addr) (H' : Hp), H r = none → Same H H' → RatAt C H' r (nrm (-a) b).1 (nrm (-a) b).2 → Q (.ref r) H'

def sp_Ratio_eq (C : Addr) : Sp := fun vs H Q _ => ∃ (p q : Addr) (a b c d : Int), vs = [.ref p, .ref q] ∧ RatAt C H p a b ∧ RatAt C H q c d ∧ Q (.bl (decide (a = c ∧ b = d))) H

def sp_Ratio_compare (C : Addr) : Sp := fun vs H Q _ => ∃ (p q : Addr) (a b c d : Int), vs = [.ref p, .ref q] ∧ RatAt C H p a b ∧ RatAt C H q c d ∧
  a.natAbs < 2 ^ 700 ∧ b.natAbs < 2 ^ 700 ∧ c.natAbs < 2 ^ 700 ∧ d.natAbs < 2 ^ 700 ∧ Q (.int (if a * d < c * b then -1 else if a * d > c * b then 1 else 0)) H

def sp_Ratio_floor (C : Addr) : Sp := fun vs H Q _ => ∃ (p : Addr) (a b : Int), vs = [.ref p] ∧ RatAt C H p a b ∧ 0 < b ∧ b.natAbs < 2 ^ 700 ∧ Q (.int (a.fdiv b)) H

def sp_Ratio_ceiling (C : Addr) : Sp := fun vs H Q _ => ∃ (p : Addr) (a b : Int), vs = [.ref p] ∧ RatAt C H p a b ∧ 0 < b ∧ b.natAbs < 2 ^ 700 ∧ Q (.int (-((-a).fdiv b))) H

def txt (a b : Int) : Str := if b = 1 then Str.ofString (toString a) else Str.ofString (toString a) ++ (("/" : Str) ++ Str.ofString (toString b))
theorem txt_len {a : Int} (h : a.natAbs < 2 ^ 700) : (Str.ofString (toString a)).length ≤ 701 := by
  rw [PySem.ofString_length]
  exact PySem.int_text_length_le (by decide) (PySem.Flt.log2_lt_of (by decide) h)
def sp_Ratio_text (C : Addr) : Sp := fun vs H Q _ => ∃ (p : Addr) (a b : Int), vs = [.ref p] ∧ RatAt C H p a b ∧ a.natAbs < 2 ^ 700 ∧ b.natAbs < 2 ^ 700 ∧ Q (.str (txt a b)) H

def sp_l_number : Sp := fun vs H Q _ => ∃ (a : Addr) (n : Nat), vs = [.ref a, .int n] ∧ PoolAt H a ∧ n ≤ 12 ∧
  ∀ (d : Int) (H' : Hp), 0 ≤ d → d < 100000 ^ n → PoolAt H' a → Chg a H H' → Q (.int d) H'

def sp_l_terms : Sp := fun vs H Q _ => ∃ (a : Addr), vs = [.ref a] ∧ PoolAt H a ∧
  ∀ (o u : Int) (b : Bool) (t : Addr) (H' : Hp), o.natAbs < 2 ^ 200 → 0 < u → u.natAbs < 2 ^ 200 → H t = none → t ≠ a → H' t = some (.lst [.int o, .int u, .bl b]) → PoolAt H' a → Chg a H H' → Q (.ref t) H'
theorem pow_small {d : Int} {n : Nat} (h0 : 0 ≤ d) (h : d < 100000 ^ n) (hn : n ≤ 12) : d.natAbs < 2 ^ 200 := by
  have h3 : ∀ m : Nat, m ≤ 12 → (100000 : Int) ^ m < 2 ^ 200 := by decide +kernel
  have := h3 n hn
  omega

def sp_l_passed : Sp := fun vs H Q _ => ∃ (a t : Addr) (o u : Int) (b : Bool), vs = [.ref a, .ref t] ∧ PoolAt H a ∧ H t = some (.lst [.int o, .int u, .bl b]) ∧ t ≠ a ∧ o.natAbs < 2 ^ 200 ∧ 0 < u ∧ u.natAbs < 2 ^ 200 ∧
  ∀ (x y : Int) (r : Addr) (H' : Hp), x.natAbs < 2 ^ 267 → y ≠ 0 → y.natAbs < 2 ^ 267 → H r = none → r ≠ a → H' r = some (.lst [.int x, .int y]) → PoolAt H' a → Chg a H H' → Q (.ref r) H'

def sp_l_nearer : Sp := fun vs H Q _ => ∃ (p : Addr) (x y : Int), vs = [.ref p] ∧ H p = some (.lst [.int x, .int y]) ∧
  ∀ (z : Int) (r : Addr), z.natAbs ≤ x.natAbs + 1 → H r = none → Q (.ref r) (upd H r (.lst [.int z, .int y]))

def fibp : Nat → Nat × Nat
  | 0 => (0, 1)
  | n + 1 => ((fibp n).2, (fibp n).1 + (fibp n).2)
def fib (n : Nat) : Nat := (fibp n).1
theorem fib_two (n : Nat) : fib (n + 2) = fib n + fib (n + 1) := rfl
theorem fib_big : 2 ^ 850 ≤ fib 1299 := by decide +kernel
def sp_l_coprime : Sp := fun vs H Q _ => ∃ (x y : Int), vs = [.int x, .int y] ∧ 0 < y ∧ y.natAbs < 2 ^ 850 ∧ Nat.gcd x.natAbs y.natAbs = 1 ∧ Q (.bl true) H
/-- n more turns suffice -/
def Ends (n : Nat) (x y : Nat) : Prop := y ≤ x ∧ (y < fib (n + 1) ∨ x < fib (n + 2))
theorem Ends.step {n x y : Nat} (h : Ends (n + 1) x y) (hy : 0 < y) : Ends n y (x % y) := by
  obtain ⟨h1, h2⟩ := h
  have hm := Nat.mod_lt x hy
  refine ⟨Nat.le_of_lt hm, ?_⟩
  rcases h2 with h2 | h2
  · exact .inr h2
  · by_cases hy2 : y < fib (n + 2)
    · exact .inr hy2
    · left
      have e := fib_two (n + 1)
      have hle : x % y ≤ x - y := by
        rw [Nat.mod_eq_sub_mod h1]
        exact Nat.mod_le _ _
      have e2 : fib (n + 1 + 2) = fib (n + 1) + fib (n + 2) := fib_two (n + 1)
      omega
theorem Ends.zero {x y : Nat} (h : Ends 0 x y) : y = 0 := by
  obtain ⟨h1, h2⟩ := h
  have e1 : fib 1 = 1 := rfl
  have e2 : fib 2 = 1 := rfl
  have : fib (0 + 1) = 1 := rfl
  have : fib (0 + 2) = 1 := rfl
  omega

theorem cross_under {t b over under : Int} (g : Good t b) (h : t * under = over * b) (hu : under ≠ 0) : b.natAbs ≤ under.natAbs := by
  have hd : b.natAbs ∣ under.natAbs := by
    have h1 : b.natAbs ∣ t.natAbs * under.natAbs := by
      rw [← Int.natAbs_mul, h, Int.natAbs_mul]
      exact Nat.dvd_mul_left _ _
    exact Nat.Coprime.dvd_of_dvd_mul_left (show Nat.Coprime b.natAbs t.natAbs by rw [Nat.coprime_comm]; exact g.cop) h1
  exact Nat.le_of_dvd (by omega) hd

def sp_l_holds (C : Addr) : Sp := fun vs H Q _ => ∃ (p : Addr) (t b over under : Int), vs = [.ref p, .int over, .int under] ∧ RatAt C H p t b ∧ Good t b ∧ t * under = over * b ∧ under ≠ 0 ∧ under.natAbs < 2 ^ 850 ∧ t.natAbs < 2 ^ 3000 ∧ over.natAbs < 2 ^ 3000 ∧ Q (.bl true) H

def sp_l_equals (C : Addr) : Sp := fun vs H Q _ => ∃ (p q : Addr) (a b c d : Int) (due : Bool), vs = [.ref p, .ref q, .bl due] ∧ RatAt C H p a b ∧ RatAt C H q c d ∧ due = decide (a = c ∧ b = d) ∧ Q (.bl true) H

def sp_l_compares (C : Addr) : Sp := fun vs H Q _ => ∃ (p q : Addr) (a b c d due : Int), vs = [.ref p, .ref q, .int due] ∧ RatAt C H p a b ∧ RatAt C H q c d ∧ a.natAbs < 2 ^ 700 ∧ b.natAbs < 2 ^ 700 ∧ c.natAbs < 2 ^ 700 ∧ d.natAbs < 2 ^ 700 ∧
  due = (if a * d < c * b then -1 else if a * d > c * b then 1 else 0) ∧ Q (.bl true) H

def sp_l_refuses : Sp := fun vs H Q _ => ∃ (o : Int), vs = [.int o] ∧ ∀ H', Same H H' → Q (.bl true) H'

theorem cross_nrm {T B over under : Int} (hB : B ≠ 0) (h : T * under = over * B) : (nrm T B).1 * under = over * (nrm T B).2 := by
  obtain ⟨_, e, _, _⟩ := nrm_spec (t := T) hB
  refine Int.eq_of_mul_eq_mul_right hB ?_
  grind
theorem sz {i : Int} {m n : Nat} (h : i.natAbs < 2 ^ m) (hm : m ≤ n) : i.natAbs < 2 ^ n := Nat.lt_of_lt_of_le h (Nat.pow_le_pow_right (by decide) hm)
theorem szle {i j : Int} {n : Nat} (h : i.natAbs ≤ j.natAbs) (hj : j.natAbs < 2 ^ n) : i.natAbs < 2 ^ n := Nat.lt_of_le_of_lt h hj
theorem sz_add {i j : Int} {n : Nat} (h : i.natAbs < 2 ^ n) (hj : j.natAbs < 2 ^ n) : (i + j).natAbs < 2 ^ (n + 1) := by
  have := Int.natAbs_add_le i j
  rw [Nat.pow_succ]
  omega
theorem sz_sub {i j : Int} {n : Nat} (h : i.natAbs < 2 ^ n) (hj : j.natAbs < 2 ^ n) : (i - j).natAbs < 2 ^ (n + 1) := by
  have := Int.natAbs_sub_le i j
  rw [Nat.pow_succ]
  omega
theorem floor_ok {t b over under : Int} (hb : 0 < b) (hu : 0 < under) (h : t * under = over * b) : t.fdiv b * under ≤ over ∧ over < t.fdiv b * under + under := by
  rw [Int.fdiv_eq_ediv_of_nonneg t (by omega)]
  have h1 := Int.ediv_mul_le t (show b ≠ 0 by omega)
  have h2 := Int.lt_ediv_add_one_mul_self t hb
  generalize t / b = q at *
  constructor
  · refine Int.le_of_mul_le_mul_right ?_ hb
    have := Int.mul_le_mul_of_nonneg_right h1 (show 0 ≤ under by omega)
    have e : q * under * b = q * b * under := by grind
    omega
  · refine Int.lt_of_mul_lt_mul_right (a := b) ?_ (by omega)
    have := Int.mul_lt_mul_of_pos_right h2 hu
    have e : (q + 1) * b * under = (q * under + under) * b := by grind
    omega
theorem ceil_ok {t b over under : Int} (hb : 0 < b) (hu : 0 < under) (h : t * under = over * b) : over ≤ -((-t).fdiv b) * under ∧ -((-t).fdiv b) * under - under < over := by
  obtain ⟨h1, h2⟩ := floor_ok (t := -t) (over := -over) hb hu (by grind)
  generalize (-t).fdiv b = q at *
  have e : -q * under = -(q * under) := by grind
  omega
theorem fdiv_sz {t b : Int} (hb : 0 < b) : (t.fdiv b).natAbs ≤ t.natAbs := by
  rw [Int.fdiv_eq_ediv_of_nonneg t (by omega)]
  exact Int.natAbs_ediv_le_natAbs t b
theorem call_add {C : Addr} {H : Hp} {Q : VK} {E : XK} {p q : Addr} {a b c d : Int} (hx : RatAt C H p a b) (hy : RatAt C H q c d) (gx : Good a b) (gy : Good c d) (sa : a.natAbs < 2 ^ 700) (sb : b.natAbs < 2 ^ 700) (sc : c.natAbs < 2 ^ 700) (sd : d.natAbs < 2 ^ 700)
    (k : ∀ (r : Addr) (H' : Hp), H r = none → Same H H' → ∀ T B : Int, RatAt C H' r T B → Good T B → (∀ over under, (a * d + c * b) * under = over * (b * d) → T * under = over * B) → T.natAbs ≤ (a * d + c * b).natAbs → B.natAbs ≤ (b * d).natAbs → Q (.ref r) H') :
    sp_Ratio_add C [.ref p, .ref q] H Q E := by
  have hB : b * d ≠ 0 := Int.ne_of_gt (Int.mul_pos gx.pos gy.pos)
  obtain ⟨g, _, l1, l2⟩ := nrm_spec (t := a * d + c * b) hB
  exact ⟨p, q, a, b, c, d, rfl, hx, hy, gx.pos, gy.pos, sa, sb, sc, sd, fun r H' hr s hR => k r H' hr s _ _ hR g (fun _ _ h => cross_nrm hB h) l1 l2⟩
theorem call_sub {C : Addr} {H : Hp} {Q : VK} {E : XK} {p q : Addr} {a b c d : Int} (hx : RatAt C H p a b) (hy : RatAt C H q c d) (gx : Good a b) (gy : Good c d) (sa : a.natAbs < 2 ^ 700) (sb : b.natAbs < 2 ^ 700) (sc : c.natAbs < 2 ^ 700) (sd : d.natAbs < 2 ^ 700)
    (k : ∀ (r : Addr) (H' : Hp), H r = none → Same H H' → ∀ T B : Int, RatAt C H' r T B → Good T B → (∀ over under, (a * d - c * b) * under = over * (b * d) → T * under = over * B) → T.natAbs ≤ (a * d - c * b).natAbs → B.natAbs ≤ (b * d).natAbs → Q (.ref r) H') :
    sp_Ratio_sub C [.ref p, .ref q] H Q E := by
  have hB : b * d ≠ 0 := Int.ne_of_gt (Int.mul_pos gx.pos gy.pos)
  obtain ⟨g, _, l1, l2⟩ := nrm_spec (t := a * d - c * b) hB
  exact ⟨p, q, a, b, c, d, rfl, hx, hy, gx.pos, gy.pos, sa, sb, sc, sd, fun r H' hr s hR => k r H' hr s _ _ hR g (fun _ _ h => cross_nrm hB h) l1 l2⟩
theorem call_mul {C : Addr} {H : Hp} {Q : VK} {E : XK} {p q : Addr} {a b c d : Int} (hx : RatAt C H p a b) (hy : RatAt C H q c d) (gx : Good a b) (gy : Good c d) (sa : a.natAbs < 2 ^ 700) (sb : b.natAbs < 2 ^ 700) (sc : c.natAbs < 2 ^ 700) (sd : d.natAbs < 2 ^ 700)
    (k : ∀ (r : Addr) (H' : Hp), H r = none → Same H H' → ∀ T B : Int, RatAt C H' r T B → Good T B → (∀ over under, (a * c) * under = over * (b * d) → T * under = over * B) → T.natAbs ≤ (a * c).natAbs → B.natAbs ≤ (b * d).natAbs → Q (.ref r) H') :
    sp_Ratio_mul C [.ref p, .ref q] H Q E := by
  have hB : b * d ≠ 0 := Int.ne_of_gt (Int.mul_pos gx.pos gy.pos)
  obtain ⟨g, _, l1, l2⟩ := nrm_spec (t := a * c) hB
  exact ⟨p, q, a, b, c, d, rfl, hx, hy, gx.pos, gy.pos, sa, sb, sc, sd, fun r H' hr s hR => k r H' hr s _ _ hR g (fun _ _ h => cross_nrm hB h) l1 l2⟩
theorem call_neg {C : Addr} {H : Hp} {Q : VK} {E : XK} {p : Addr} {a b : Int} (hx : RatAt C H p a b) (gx : Good a b) (sb : b.natAbs < 2 ^ 700)
    (k : ∀ (r : Addr) (H' : Hp), H r = none → Same H H' → ∀ T B : Int, RatAt C H' r T B → Good T B → (∀ over under, -a * under = over * b → T * under = over * B) → T.natAbs ≤ a.natAbs → Q (.ref r) H') :
    sp_Ratio_neg C [.ref p] H Q E := by
  have hB : b ≠ 0 := Int.ne_of_gt gx.pos
  obtain ⟨g, _, l1, l2⟩ := nrm_spec (t := -a) hB
  exact ⟨p, a, b, rfl, hx, gx.pos, sb, fun r H' hr s hR => k r H' hr s _ _ hR g (fun _ _ h => cross_nrm hB h) (by rw [Int.natAbs_neg] at l1; exact l1)⟩

def sp_l_alone (K : PySem.W.Frag) (C : Addr) : Sp := fun vs H Q _ => ∃ (p q : Addr) (t b over under : Int), vs = [.ref p, .ref q] ∧ RatAt C H p t b ∧ Good t b ∧ H q = some (.lst [.int over, .int under]) ∧ under ≠ 0 ∧ t * under = over * b ∧
  t.natAbs < 2 ^ 300 ∧ b.natAbs < 2 ^ 300 ∧ over.natAbs < 2 ^ 300 ∧ under.natAbs < 2 ^ 300 ∧ ∀ H', Same H H' → Q (.bl true) H'

section
variable {a b c d o0 o1 p0 p1 : Int}
theorem x_add1 (e1 : a * o1 = o0 * b) (e2 : c * p1 = p0 * d) : (a * d + c * b) * (o1 * p1) = (o0 * p1 + p0 * o1) * (b * d) := by grind
theorem x_add2 (e1 : a * o1 = o0 * b) (e2 : c * p1 = p0 * d) : (c * b + a * d) * (o1 * p1) = (o0 * p1 + p0 * o1) * (d * b) := by grind
theorem x_sub1 (e1 : a * o1 = o0 * b) (e2 : c * p1 = p0 * d) : (a * d - c * b) * (o1 * p1) = (o0 * p1 - p0 * o1) * (b * d) := by grind
theorem x_sub2 (e1 : a * o1 = o0 * b) (e2 : c * p1 = p0 * d) : (c * b - a * d) * (o1 * p1) = (p0 * o1 - o0 * p1) * (d * b) := by grind
theorem x_mul1 (e1 : a * o1 = o0 * b) (e2 : c * p1 = p0 * d) : (a * c) * (o1 * p1) = (o0 * p0) * (b * d) := by grind
theorem x_mul2 (e1 : a * o1 = o0 * b) (e2 : c * p1 = p0 * d) : (c * a) * (o1 * p1) = (o0 * p0) * (d * b) := by grind
end
def sp_l_sums (K : PySem.W.Frag) (C : Addr) : Sp := fun vs H Q _ => ∃ (p q l m : Addr) (a b c d o0 o1 p0 p1 : Int), vs = [.ref p, .ref q, .ref l, .ref m] ∧ RatAt C H p a b ∧ RatAt C H q c d ∧ Good a b ∧ Good c d ∧
  H l = some (.lst [.int o0, .int o1]) ∧ H m = some (.lst [.int p0, .int p1]) ∧ o1 ≠ 0 ∧ p1 ≠ 0 ∧ a * o1 = o0 * b ∧ c * p1 = p0 * d ∧
  a.natAbs < 2 ^ 300 ∧ b.natAbs < 2 ^ 300 ∧ c.natAbs < 2 ^ 300 ∧ d.natAbs < 2 ^ 300 ∧ o0.natAbs < 2 ^ 300 ∧ o1.natAbs < 2 ^ 300 ∧ p0.natAbs < 2 ^ 300 ∧ p1.natAbs < 2 ^ 300 ∧ ∀ H', Same H H' → Q (.bl true) H'

theorem good_eq {a b c d : Int} (g : Good a b) (h : Good c d) (e : a * d = c * b) : a = c ∧ b = d := by
  have e' : a.natAbs * d.natAbs = c.natAbs * b.natAbs := by rw [← Int.natAbs_mul, ← Int.natAbs_mul, e]
  have h1 : b.natAbs ∣ d.natAbs := Nat.Coprime.dvd_of_dvd_mul_left (show Nat.Coprime b.natAbs a.natAbs by rw [Nat.coprime_comm]; exact g.cop) (by rw [e']; exact Nat.dvd_mul_left _ _)
  have h2 : d.natAbs ∣ b.natAbs := Nat.Coprime.dvd_of_dvd_mul_left (show Nat.Coprime d.natAbs c.natAbs by rw [Nat.coprime_comm]; exact h.cop) (by rw [← e']; exact Nat.dvd_mul_left _ _)
  have e3 := Nat.dvd_antisymm h1 h2
  have p1 := g.pos
  have p2 := h.pos
  have e4 : b = d := by omega
  subst e4
  exact ⟨Int.eq_of_mul_eq_mul_right (by omega) e, rfl⟩
/-- x m = y n with positive m, n: the signs are those of each other -/
theorem sgn {x m y n : Int} (hm : 0 < m) (hn : 0 < n) (e : x * m = y * n) : (0 < x ↔ 0 < y) ∧ (x < 0 ↔ y < 0) := by
  have l : ∀ {x m y n : Int}, 0 < m → 0 < n → x * m = y * n → 0 < x → 0 < y := fun {x m y n} hm hn e hx => by
    have h1 := Int.mul_pos hx hm
    rcases Int.lt_trichotomy 0 y with h | h | h
    · exact h
    · subst h; simp at e; omega
    · have := Int.mul_neg_of_neg_of_pos h hn; omega
  refine ⟨⟨l hm hn e, l hn hm e.symm⟩, ⟨fun h => ?_, fun h => ?_⟩⟩
  · have := l (x := -x) (y := -y) hm hn (by grind) (by omega)
    omega
  · have := l (x := -y) (y := -x) hn hm (by grind) (by omega)
    omega
def sg (x y : Int) : Int := if x < y then -1 else if x > y then 1 else 0
theorem sg_gap {a b c d o0 o1 p0 p1 g : Int} (gx : 0 < b) (gy : 0 < d) (ho : o1 ≠ 0) (hp : p1 ≠ 0) (e1 : a * o1 = o0 * b) (e2 : c * p1 = p0 * d)
    (hg : g = if o1 * p1 < 0 then -(o0 * p1 - p0 * o1) else o0 * p1 - p0 * o1) :
    sg (a * d) (c * b) = (if 0 < g then 1 else 0) - (if g < 0 then 1 else 0) ∧ sg (c * b) (a * d) = -((if 0 < g then 1 else 0) - (if g < 0 then 1 else 0)) ∧
    ((if 0 < g then (1 : Int) else 0) - (if g < 0 then 1 else 0) = 0 ↔ a * d = c * b) := by
  have hu : o1 * p1 ≠ 0 := Int.mul_ne_zero ho hp
  have hbd := Int.mul_pos gx gy
  have e : (a * d - c * b) * (o1 * p1) = (o0 * p1 - p0 * o1) * (b * d) := by grind
  obtain ⟨s1, s2⟩ : (0 < a * d - c * b ↔ 0 < g) ∧ (a * d - c * b < 0 ↔ g < 0) := by
    by_cases hn : o1 * p1 < 0
    · rw [if_pos hn] at hg
      exact sgn (m := -(o1 * p1)) (n := b * d) (by omega) hbd (by grind)
    · rw [if_neg hn] at hg
      exact sgn (m := o1 * p1) (n := b * d) (by omega) hbd (by grind)
  unfold sg
  generalize a * d = u at *
  generalize c * b = v at *
  refine ⟨?_, ?_, ?_⟩
  · repeat' split
    all_goals omega
  · repeat' split
    all_goals omega
  · constructor
    · intro h
      repeat' split at h
      all_goals omega
    · intro h
      repeat' split
      all_goals omega
theorem call_cmp {C : Addr} {H : Hp} {Q : VK} {E : XK} {p q : Addr} {a b c d due : Int} (hx : RatAt C H p a b) (hy : RatAt C H q c d) (sa : a.natAbs < 2 ^ 700) (sb : b.natAbs < 2 ^ 700) (sc : c.natAbs < 2 ^ 700) (sd : d.natAbs < 2 ^ 700)
    (e : sg (a * d) (c * b) = due) (k : Q (.bl true) H) : sp_l_compares C [.ref p, .ref q, .int due] H Q E := ⟨p, q, a, b, c, d, due, rfl, hx, hy, sa, sb, sc, sd, e.symm, k⟩
theorem call_equ {C : Addr} {H : Hp} {Q : VK} {E : XK} {p q : Addr} {a b c d : Int} {due : Bool} (hx : RatAt C H p a b) (hy : RatAt C H q c d) (gx : Good a b) (gy : Good c d) (e : due = decide (a * d = c * b)) (k : Q (.bl true) H) : sp_l_equals C [.ref p, .ref q, .bl due] H Q E :=
  ⟨p, q, a, b, c, d, due, rfl, hx, hy, by
    rw [e]
    refine decide_eq_decide.mpr ⟨fun z => good_eq gx gy z, fun z => by rw [z.1, z.2]⟩, k⟩

def sp_l_order (K : PySem.W.Frag) (C : Addr) : Sp := fun vs H Q _ => ∃ (p q l m : Addr) (a b c d o0 o1 p0 p1 : Int), vs = [.ref p, .ref q, .ref l, .ref m] ∧ RatAt C H p a b ∧ RatAt C H q c d ∧ Good a b ∧ Good c d ∧
  H l = some (.lst [.int o0, .int o1]) ∧ H m = some (.lst [.int p0, .int p1]) ∧ o1 ≠ 0 ∧ p1 ≠ 0 ∧ a * o1 = o0 * b ∧ c * p1 = p0 * d ∧
  a.natAbs < 2 ^ 300 ∧ b.natAbs < 2 ^ 300 ∧ c.natAbs < 2 ^ 300 ∧ d.natAbs < 2 ^ 300 ∧ o0.natAbs < 2 ^ 300 ∧ o1.natAbs < 2 ^ 300 ∧ p0.natAbs < 2 ^ 300 ∧ p1.natAbs < 2 ^ 300 ∧ ∀ H', Same H H' → Q (.bl true) H'

theorem x_whole {a b x y T y1 y2 s B : Int} (e1 : a * y = x * b) (e2 : T * (y1 * y2) = s * B) : (a * T) * (y * y1 * y2) = (x * s) * (b * B) := by
  have e3 : (a * T) * (y * y1 * y2) = (a * y) * (T * (y1 * y2)) := by grind
  rw [e3, e1, e2]
  grind
theorem x_parts {U1 V1 U2 V2 x0 y0 x1 y1 x2 y2 : Int} (e1 : U1 * (y0 * y1) = (x0 * x1) * V1) (e2 : U2 * (y0 * y2) = (x0 * x2) * V2) : (U1 * V2 + U2 * V1) * (y0 * y1 * y2) = (x0 * (x1 * y2 + x2 * y1)) * (V1 * V2) := by
  have e3 : (U1 * V2 + U2 * V1) * (y0 * y1 * y2) = (U1 * (y0 * y1)) * (V2 * y2) + (U2 * (y0 * y2)) * (V1 * y1) := by grind
  rw [e3, e1, e2]
  grind
theorem x_same {T B PT PB o u : Int} (hu : u ≠ 0) (e1 : T * u = o * B) (e2 : PT * u = o * PB) : T * PB = PT * B := by
  refine Int.eq_of_mul_eq_mul_right hu ?_
  have e3 : T * PB * u = (T * u) * PB := by grind
  have e4 : PT * B * u = (PT * u) * B := by grind
  rw [e3, e4, e1, e2]
  grind
structure Pools (H : Hp) (D p0 p1 p2 : Addr) : Prop where
  l : H D = some (.lst [.ref p0, .ref p1, .ref p2])
  q0 : PoolAt H p0
  q1 : PoolAt H p1
  q2 : PoolAt H p2
  n01 : p0 ≠ p1
  n02 : p0 ≠ p2
  n12 : p1 ≠ p2
  d0 : D ≠ p0
  d1 : D ≠ p1
  d2 : D ≠ p2
theorem PoolAt.chg {a b : Addr} {H H' : Hp} (c : Chg a H H') (n : b ≠ a) (h : PoolAt H b) : PoolAt H' b := by
  obtain ⟨x, y, z, e⟩ := h
  exact ⟨x, y, z, c _ _ n e⟩
theorem Pools.c0 {H H' : Hp} {D p0 p1 p2 : Addr} (P : Pools H D p0 p1 p2) (c : Chg p0 H H') (q : PoolAt H' p0) : Pools H' D p0 p1 p2 :=
  ⟨c _ _ P.d0 P.l, q, P.q1.chg c P.n01.symm, P.q2.chg c P.n02.symm, P.n01, P.n02, P.n12, P.d0, P.d1, P.d2⟩
theorem Pools.c1 {H H' : Hp} {D p0 p1 p2 : Addr} (P : Pools H D p0 p1 p2) (c : Chg p1 H H') (q : PoolAt H' p1) : Pools H' D p0 p1 p2 :=
  ⟨c _ _ P.d1 P.l, P.q0.chg c P.n01, q, P.q2.chg c P.n12.symm, P.n01, P.n02, P.n12, P.d0, P.d1, P.d2⟩
theorem Pools.c2 {H H' : Hp} {D p0 p1 p2 : Addr} (P : Pools H D p0 p1 p2) (c : Chg p2 H H') (q : PoolAt H' p2) : Pools H' D p0 p1 p2 :=
  ⟨c _ _ P.d2 P.l, P.q0.chg c P.n02, P.q1.chg c P.n12, q, P.n01, P.n02, P.n12, P.d0, P.d1, P.d2⟩
theorem Chg.seq {K : PySem.W.Frag} {D a : Addr} {H H' : Hp} {xs : List V} (c : Chg D H H') (hn : H D = none) (h : SqL K H a xs) : SqL K H' a xs := by
  rcases h with (h | ⟨o, h⟩) | h
  · exact .inl (.inl (c _ _ (ne_of_none h hn) h))
  · exact .inl (.inr ⟨o, c _ _ (ne_of_none h hn) h⟩)
  · exact .inr h

def sp_l_law (K : PySem.W.Frag) : Sp := fun vs H Q _ => ∃ (a : Addr) (ns : List Int), vs = [.ref a] ∧ SqL K H a (ns.map V.int) ∧ ns.length ≤ 63 ∧ ∀ H', Q (.bl true) H'

local macro_rules | `(tactic| walk_at "hp") => `(tactic| first | assumption | exact upd_same | (rw [upd_ne (by walk_at "ne")]; walk_at "hp"))
local macro_rules | `(tactic| walk_at "ne") => `(tactic| first | assumption | (refine Ne.symm ?_; assumption) | exact ne_of_none (by assumption) (by assumption) | exact (ne_of_none (by assumption) (by assumption)).symm)
local macro_rules | `(tactic| walk_at "sq") => `(tactic| first | assumption | (apply SqL.of; walk_at "hp") | (apply SqT.of; walk_at "hp"))
local macro_rules | `(tactic| walk_at "sd") => `(tactic| first | assumption | rfl | trivial | decide | omega)
local macro_rules | `(tactic| walk_at "ty") => `(tactic| first | exact TyX.base (TyOf.int _) | exact TyX.base (TyOf.bl _) | exact TyX.base (TyOf.str _) | exact TyX.base TyOf.non | (refine TyX.base (TyOf.ins (by walk_at "hp") (by walk_at "cl") (by walk_at "ca") (by walk_at "cn") (by walk_at "ct") (by walk_at "co"))) | exact TyX.base (TyOf.lst (by walk_at "hp")) | exact TyX.base (TyOf.tup (by walk_at "hp")))
local macro_rules | `(tactic| walk_at "lk") => `(tactic| first | rfl | (simp [List.lookup]; done))
local macro_rules | `(tactic| walk_at "cm") => `(tactic| first | assumption | exact .inl (by decide) | exact .inr (by decide) | exact .inl ⟨by omega, by omega⟩ | exact .inr ⟨by omega, by omega⟩)
local macro_rules | `(tactic| walk_at "mw") => `(tactic| first | assumption | exact wide_mul (by assumption) (by assumption) (by decide) (by decide) (by decide))
local macro_rules | `(tactic| walk_at "l2") => `(tactic| first | assumption | exact R.l2 (by assumption) (by decide) (by decide))
local macro_rules | `(tactic| walk_at "sl") => `(tactic| assumption)
local macro_rules | `(tactic| walk_at "cd") => `(tactic| first | assumption | decide | exact ⟨by omega, by omega⟩)
local macro_rules | `(tactic| walk_at "r1") => `(tactic| first | (with_reducible refine R.seq ?_) | (with_reducible refine R.asg ?_) | (with_reducible refine R.op ?_) | (with_reducible refine R.cst ?_) | (with_reducible refine R.i0 ?_) | (with_reducible refine R.cons ?_) | (with_reducible refine R.nil ?_) | (with_reducible refine R.cb ?_) | (with_reducible refine R.call ?_) | (with_reducible refine R.lst ?_) | (with_reducible refine R.tup ?_) | (with_reducible refine R.ifS ?_) | (with_reducible refine R.test ?_) | (with_reducible refine R.tbl ?_) | (with_reducible refine R.exb ?_) | (with_reducible refine R.exb' ?_) | (with_reducible refine R.ret ?_) | (with_reducible refine R.nxt ?_) | (with_reducible refine R.drop ?_) | (with_reducible refine R.retN ?_) | (with_reducible refine R.uI ?_) | (with_reducible refine R.un ?_) | (with_reducible refine R.eqII ?_) | (with_reducible refine R.neII ?_) | (with_reducible refine R.eqBB ?_) | (with_reducible refine R.neBB ?_) | (with_reducible refine R.eqSS ?_) | (with_reducible refine R.neSS ?_) | (with_reducible refine R.and ?_) | (with_reducible refine R.or ?_) | (with_reducible refine R.not ?_) | (with_reducible refine R.andV ?_) | (with_reducible refine R.orV ?_) | (with_reducible refine R.notV ?_) | (with_reducible refine R.isN ?_) | (with_reducible refine R.notN ?_) | (with_reducible refine R.chain ?_) | (with_reducible refine R.int1 ?_) | (with_reducible refine R.int1b ?_) | (with_reducible refine R.abs1 ?_) | (with_reducible refine R.sfld ?_) | (with_reducible refine R.gcd ?_) | (with_reducible refine R.yes ?_) | (with_reducible refine R.makeN ?_) | (with_reducible refine R.lc ?_) | (with_reducible refine R.forS ?_) | (with_reducible refine R.rng1 ?_) | (with_reducible refine R.rng2 ?_) | (with_reducible refine R.make ?_) | (with_reducible refine R.makeS ?_) | (with_reducible refine R.meth ?_) | (with_reducible refine R.jcons ?_) | (with_reducible refine R.jnil ?_) | (with_reducible refine R.max2 ?_) | (with_reducible refine R.min2 ?_) | (with_reducible refine R.gsub ?_) | (with_reducible refine R.brk ?_) | (with_reducible refine R.cnt ?_) | (with_reducible refine R.fld ?_) | (with_reducible refine R.ifE ?_) | (with_reducible refine iteF ?_) | (with_reducible refine iteT ?_) | (with_reducible refine R.iteNt ?_) | (with_reducible refine R.iteNf ?_) | (with_reducible refine R.v0 ?_) | (with_reducible refine R.v1 ?_) | (with_reducible refine R.v2 ?_) | (with_reducible refine R.v3 ?_) | (with_reducible refine R.v4 ?_) | (with_reducible refine R.v5 ?_) | (with_reducible refine R.v6 ?_) | (with_reducible refine R.v7 ?_) | (with_reducible refine R.v8 ?_) | (with_reducible refine R.v9 ?_) | (with_reducible refine R.v10 ?_) | (with_reducible refine R.v11 ?_) | (with_reducible refine R.v12 ?_) | (with_reducible refine R.v13 ?_) | (with_reducible refine R.v14 ?_) | (with_reducible refine R.v15 ?_) | (with_reducible refine R.g0 ?_) | (with_reducible refine R.g1 ?_) | (with_reducible refine R.g2 ?_) | (with_reducible refine R.g3 ?_) | (with_reducible refine R.g4 ?_) | (with_reducible refine R.g5 ?_) | (with_reducible refine R.g6 ?_) | (with_reducible refine R.g7 ?_) | (with_reducible refine R.g8 ?_) | (with_reducible refine R.g9 ?_) | (with_reducible refine R.g10 ?_) | (with_reducible refine R.g11 ?_) | (with_reducible refine R.g12 ?_) | (with_reducible refine R.g13 ?_) | (with_reducible refine R.g14 ?_) | (with_reducible refine R.g15 ?_) | ((with_reducible apply R.ixl); (case h => walk_at "sq"); (case e => first | assumption | rfl)) | ((with_reducible apply R.ixt); (case h => walk_at "sq"); (case e => first | assumption | rfl)) | ((with_reducible apply R.setl); (case h => walk_at "hp"); (case e => rfl)) | ((with_reducible apply R.methx); (case h => walk_at "hp"); (case e => walk_at "lk")) | ((with_reducible apply R.own2); (case ha => walk_at "hp"); (case hb => walk_at "hp")) | ((with_reducible apply R.own1); (case ha => walk_at "hp")) | ((with_reducible apply R.inOwn); (case ha => walk_at "hp")) | ((with_reducible apply R.strI); (case h => walk_at "l2")) | ((with_reducible apply R.fmtI); (case h => walk_at "l2")) | ((with_reducible apply R.jstr); (case h => walk_at "sl")) | ((with_reducible apply R.addS); (case h => walk_at "sl")) | ((with_reducible apply R.sfldx); (case h => walk_at "hp"); (case hc => walk_at "cl"); (case hn => walk_at "na"); (case e => first | decide | (show _ < _; simp [putF]; done))) | ((with_reducible apply R.isi); (case hc => first | exact ClsV.ty _ | exact ClsV.own _); (case ht => walk_at "ty"); (case e => assumption)) | ((with_reducible apply R.isEE); (case hE => walk_at "ex"); (case hc => exact fun _ h => h); (case e => assumption)) | ((with_reducible apply R.fldx); (case h => walk_at "hp"); (case hc => walk_at "cl"); (case hn => walk_at "na"); (case e => walk_at "lk")) | ((with_reducible apply R.lnew); (case h => exact Nat.le_trans (m := 64) (by simp) (by decide))) | ((with_reducible apply R.mul); (case h => walk_at "cm")) | ((with_reducible apply R.mod); (case h => first | assumption | decide | omega)) | ((with_reducible apply R.div); (case h => walk_at "cd")) | ((with_reducible apply R.divA); (case h => assumption)) | ((with_reducible apply R.divW); (case h => assumption)) | ((with_reducible apply R.mulW); (case h => walk_at "mw")) | ((with_reducible apply R.pow); (case h => first | decide | exact ⟨by omega, by omega, by omega⟩)) | ((with_reducible apply R.lenL); (case h => walk_at "sq")) | ((with_reducible apply R.wip); (case e => rfl)) | ((with_reducible apply R.rng1x); (case h => first | decide | omega); (case h2 => first | decide | omega)) | ((with_reducible apply R.rng2x); (case h => first | decide | (refine ⟨?_, ?_, ?_, ?_⟩ <;> omega))) | ((with_reducible apply R.lenT); (case h => walk_at "sq")) | (with_reducible apply R.iteDT (by first | assumption | omega)) | (with_reducible apply R.iteDF (by first | assumption | omega)) | (with_reducible apply R.iteNT (by first | assumption | omega)) | (with_reducible apply R.iteNF (by first | assumption | omega)) | ((fail_if_success (with_reducible show ∃ (W : Nat → Nat → L2.St → Hp → Prop), _)); (fail_if_success (with_reducible show ∃ (W : Nat → Nat → Hp → Prop), _)); first | dsimp only [wipe, List.map_cons, List.map_nil, List.set_cons_zero, List.set_cons_succ] | dsimp only))
local macro_rules | `(tactic| walk_at "sp") => `(tactic| first | refine R.iteD (fun _ => ?_) (fun _ => ?_) | refine R.iteDN (fun _ => ?_) (fun _ => ?_) | refine R.iteN (fun _ => ?_) (fun _ => ?_) | refine R.ite (fun _ => ?_) (fun _ => ?_))
local macro_rules | `(tactic| walk_at "rd") => `(tactic| repeat walk_at "r1")
local macro_rules | `(tactic| walk_at "cl") => `(tactic| first | assumption | exact S_Ratio.cl (by assumption))
local macro_rules | `(tactic| walk_at "na") => `(tactic| first | assumption | exact S_Ratio.n_top (by assumption) | exact S_Ratio.n_bottom (by assumption))
local macro_rules | `(tactic| walk_at "ex") => `(tactic| first | assumption | exact S_DampError.ex (by assumption) | exact S_BadRatio.ex (by assumption) | exact S_BadNumber.ex (by assumption) | exact S_TooLarge.ex (by assumption))
local macro_rules | `(tactic| walk_at "ca") => `(tactic| first | assumption | exact S_Ratio.ha (by assumption))
local macro_rules | `(tactic| walk_at "cn") => `(tactic| first | assumption | exact S_Ratio.hn (by assumption))
local macro_rules | `(tactic| walk_at "ct") => `(tactic| first | assumption | exact S_Ratio.ht (by assumption))
local macro_rules | `(tactic| walk_at "co") => `(tactic| first | assumption | exact S_Ratio.hm (by assumption))
set_option maxHeartbeats 4000000
set_option exponentiation.threshold 20000
section
variable {P : Program} {w : World} {K : PySem.W.Frag} {mg : Str → Option Value} {base : Heap}
theorem ok_f_ceil_div {f : Addr} {fd : FuncData} (F : L2.Fun K "ceil_div" "ceil_div" s_f_ceil_div f fd)
     :
    FnOk P w K mg base CX0 1 f fd ["x", "y"] sp_f_ceil_div := by
  refine F.ok sc_f_ceil_div (fun vs H Q E h => ?_) (fun cdv A outer s H vs Q E hr h => ?_)
  · obtain ⟨x, y, rfl, _⟩ := h
    rfl
  · obtain ⟨x, y, rfl, hy, hs, q⟩ := h
    refine ⟨_, (pss_one (ps_ret (pe_un un_neg (pe_op OW.op_fdivA (pe_un un_neg (pv 0)) (pv 1))))), ?_⟩
    rw [show L2.start ["x", "y"] [.int x, .int y] = [some (.int x), some (.int y)] from rfl]
    have hd : OW.CDivA (-x) y := ⟨by omega, Nat.lt_of_lt_of_le (lg hs (by decide)) (by decide)⟩
    walk_at "rd"
    exact q

theorem ok_Ratio_init {f : Addr} {fd : FuncData} (F : FunD K "__init__" "Ratio.__init__" (defArgs s_Ratio_init) (defBody s_Ratio_init) (defScope s_Ratio_init) [.int 1] [] f fd)
    {C_BadRatio : Addr} (T_BadRatio : S_BadRatio K mg C_BadRatio)
    {C_Ratio : Addr} (T_Ratio : S_Ratio K mg C_Ratio)
    (i_gcd : mg "gcd" = some (.builtin "math.gcd")) :
    FnOk P w K mg base (L2.CX P w) 1 f fd ["self", "top", "bottom"] (sp_Ratio_init C_Ratio C_BadRatio) := by
  refine OW.okDX F sc_Ratio_init (fun vs H Q E h => ?_) (fun cdv A outer s H vs Q E hr h => ?_)
  · obtain ⟨p, dx, t, b, rfl, _⟩ := h
    rfl
  · obtain ⟨p, dx, t, b, rfl, hp, hs, k0, k1⟩ := h
    refine ⟨_, (pss_cons (ps_if (pt_cmpR op_eq (pv 2) pe_int (nomark _))
      (pss_one (ps_raise rfl (takes_of rfl rfl rfl rfl) (pmk_own PySem.F.excBase_ValueError T_BadRatio.x T_BadRatio.mg T_BadRatio.kp (raises_own T_BadRatio.b T_BadRatio.t) rfl)))
      pss_nil)
      (pss_cons (ps_set (i := 3) sc_Ratio_init.nd rfl (by first | exact Or.inl rfl | exact Or.inr rfl) (pe_callBfun cr_gcd (by rfl) i_gcd (pa_cons (pv 1) (pa_cons (pv 2) pa_nil))))
      (pss_cons (ps_if (pt_cmpR op_lt (pv 2) pe_int (nomark _))
      (pss_one (ps_set (i := 3) sc_Ratio_init.nd rfl (by first | exact Or.inl rfl | exact Or.inr rfl) (pe_un un_neg (pv 3))))
      pss_nil)
      (pss_cons (ps_fld (pv 0) (pe_op OW.op_fdivA (pv 1) (pv 3)) rfl)
      (pss_one (ps_fld (pv 0) (pe_op OW.op_fdivA (pv 2) (pv 3)) rfl)))))), ?_⟩
    rw [show L2.start ["self", "top", "bottom", "common"] [.ref p, .int t, .int b] = [some (.ref p), some (.int t), some (.int b), none] from rfl]
    walk_at "rd"
    refine R.iteD (fun h => k0 h) (fun h => ?_)
    have hg : ((Nat.gcd t.natAbs b.natAbs : Nat) : Int).natAbs ≤ b.natAbs := by
      rw [Int.natAbs_natCast]
      exact Nat.gcd_le_right _ (by omega)
    have hg0 : 0 < Nat.gcd t.natAbs b.natAbs := Nat.gcd_pos_of_pos_right _ (by omega)
    have hl : ∀ c : Int, c.natAbs = Nat.gcd t.natAbs b.natAbs → ∀ i, OW.CDivA i c := fun c e i => ⟨by omega, Nat.lt_of_lt_of_le (lg (n := 8000) (by rw [e]; rw [Int.natAbs_natCast] at hg; omega) (by decide)) (by decide)⟩
    have k := k1 h
    walk_at "rd"
    refine R.iteD (fun h2 => ?_) (fun h2 => ?_)
    · have d1 := hl (-((Nat.gcd t.natAbs b.natAbs : Nat) : Int)) (by omega) t
      have d2 := hl (-((Nat.gcd t.natAbs b.natAbs : Nat) : Int)) (by omega) b
      walk_at "rd"
      rw [upd_upd]
      have e : nrm t b = (t.fdiv (-((Nat.gcd t.natAbs b.natAbs : Nat) : Int)), b.fdiv (-((Nat.gcd t.natAbs b.natAbs : Nat) : Int))) := by
        unfold nrm
        simp only [if_pos h2]
      rw [e] at k
      exact k
    · have d1 := hl ((Nat.gcd t.natAbs b.natAbs : Nat) : Int) (by omega) t
      have d2 := hl ((Nat.gcd t.natAbs b.natAbs : Nat) : Int) (by omega) b
      walk_at "rd"
      rw [upd_upd]
      have e : nrm t b = (t.fdiv ((Nat.gcd t.natAbs b.natAbs : Nat) : Int), b.fdiv ((Nat.gcd t.natAbs b.natAbs : Nat) : Int)) := by
        unfold nrm
        simp only [if_neg h2]
      rw [e] at k
      exact k

theorem ok_Ratio_add {f : Addr} {fd : FuncData} (F : L2.Fun K "__add__" "Ratio.__add__" s_Ratio_add f fd)
    {C_BadRatio : Addr} (T_BadRatio : S_BadRatio K mg C_BadRatio)
    {C_Ratio : Addr} (T_Ratio : S_Ratio K mg C_Ratio)
    {f_Ratio_init : Addr} {fd_Ratio_init : FuncData} (G_Ratio_init : FnOk P w K mg base (L2.CX P w) 1 f_Ratio_init fd_Ratio_init ["self", "top", "bottom"] (sp_Ratio_init C_Ratio C_BadRatio)) (b_Ratio_init : Binds K fd_Ratio_init ["self", "top", "bottom"] []) (I_Ratio : Mk K C_Ratio f_Ratio_init) :
    FnOk P w K mg base CX0 3 f fd ["self", "other"] (sp_Ratio_add C_Ratio) := by
  refine F.ok sc_Ratio_add (fun vs H Q E h => ?_) (fun cdv A outer s H vs Q E hr h => ?_)
  · obtain ⟨p, q, a, b, c, d, rfl, _⟩ := h
    rfl
  · obtain ⟨p, q, a, b, c, d, rfl, ⟨dp, hp⟩, ⟨dq, hq⟩, hb, hd, sa, sb, sc, sd, k⟩ := h
    refine ⟨_, (pss_one (ps_ret (pe_make I_Ratio G_Ratio_init (hr.mono (by decide)) (by rfl) T_Ratio.mg b_Ratio_init .nil passL (pa_cons (pe_op op_add (pe_op op_mulW (pe_fld (pv 0) rfl) (pe_fld (pv 1) rfl)) (pe_op op_mulW (pe_fld (pv 1) rfl) (pe_fld (pv 0) rfl))) (pa_cons (pe_op op_mulW (pe_fld (pv 0) rfl) (pe_fld (pv 1) rfl)) pa_nil))))), ?_⟩
    rw [show L2.start ["self", "other"] [.ref p, .ref q] = [some (.ref p), some (.ref q)] from rfl]
    walk_at "rd"
    exact mk_ratio (Int.ne_of_gt (Int.mul_pos hb hd)) (Nat.lt_of_lt_of_le (wide_lt sb sd) (Nat.pow_le_pow_right (by decide) (by decide))) k

theorem ok_Ratio_sub {f : Addr} {fd : FuncData} (F : L2.Fun K "__sub__" "Ratio.__sub__" s_Ratio_sub f fd)
    {C_BadRatio : Addr} (T_BadRatio : S_BadRatio K mg C_BadRatio)
    {C_Ratio : Addr} (T_Ratio : S_Ratio K mg C_Ratio)
    {f_Ratio_init : Addr} {fd_Ratio_init : FuncData} (G_Ratio_init : FnOk P w K mg base (L2.CX P w) 1 f_Ratio_init fd_Ratio_init ["self", "top", "bottom"] (sp_Ratio_init C_Ratio C_BadRatio)) (b_Ratio_init : Binds K fd_Ratio_init ["self", "top", "bottom"] []) (I_Ratio : Mk K C_Ratio f_Ratio_init) :
    FnOk P w K mg base CX0 3 f fd ["self", "other"] (sp_Ratio_sub C_Ratio) := by
  refine F.ok sc_Ratio_sub (fun vs H Q E h => ?_) (fun cdv A outer s H vs Q E hr h => ?_)
  · obtain ⟨p, q, a, b, c, d, rfl, _⟩ := h
    rfl
  · obtain ⟨p, q, a, b, c, d, rfl, ⟨dp, hp⟩, ⟨dq, hq⟩, hb, hd, sa, sb, sc, sd, k⟩ := h
    refine ⟨_, (pss_one (ps_ret (pe_make I_Ratio G_Ratio_init (hr.mono (by decide)) (by rfl) T_Ratio.mg b_Ratio_init .nil passL (pa_cons (pe_op op_sub (pe_op op_mulW (pe_fld (pv 0) rfl) (pe_fld (pv 1) rfl)) (pe_op op_mulW (pe_fld (pv 1) rfl) (pe_fld (pv 0) rfl))) (pa_cons (pe_op op_mulW (pe_fld (pv 0) rfl) (pe_fld (pv 1) rfl)) pa_nil))))), ?_⟩
    rw [show L2.start ["self", "other"] [.ref p, .ref q] = [some (.ref p), some (.ref q)] from rfl]
    walk_at "rd"
    exact mk_ratio (Int.ne_of_gt (Int.mul_pos hb hd)) (Nat.lt_of_lt_of_le (wide_lt sb sd) (Nat.pow_le_pow_right (by decide) (by decide))) k

theorem ok_Ratio_mul {f : Addr} {fd : FuncData} (F : L2.Fun K "__mul__" "Ratio.__mul__" s_Ratio_mul f fd)
    {C_BadRatio : Addr} (T_BadRatio : S_BadRatio K mg C_BadRatio)
    {C_Ratio : Addr} (T_Ratio : S_Ratio K mg C_Ratio)
    {f_Ratio_init : Addr} {fd_Ratio_init : FuncData} (G_Ratio_init : FnOk P w K mg base (L2.CX P w) 1 f_Ratio_init fd_Ratio_init ["self", "top", "bottom"] (sp_Ratio_init C_Ratio C_BadRatio)) (b_Ratio_init : Binds K fd_Ratio_init ["self", "top", "bottom"] []) (I_Ratio : Mk K C_Ratio f_Ratio_init) :
    FnOk P w K mg base CX0 3 f fd ["self", "other"] (sp_Ratio_mul C_Ratio) := by
  refine F.ok sc_Ratio_mul (fun vs H Q E h => ?_) (fun cdv A outer s H vs Q E hr h => ?_)
  · obtain ⟨p, q, a, b, c, d, rfl, _⟩ := h
    rfl
  · obtain ⟨p, q, a, b, c, d, rfl, ⟨dp, hp⟩, ⟨dq, hq⟩, hb, hd, sa, sb, sc, sd, k⟩ := h
    refine ⟨_, (pss_one (ps_ret (pe_make I_Ratio G_Ratio_init (hr.mono (by decide)) (by rfl) T_Ratio.mg b_Ratio_init .nil passL (pa_cons (pe_op op_mulW (pe_fld (pv 0) rfl) (pe_fld (pv 1) rfl)) (pa_cons (pe_op op_mulW (pe_fld (pv 0) rfl) (pe_fld (pv 1) rfl)) pa_nil))))), ?_⟩
    rw [show L2.start ["self", "other"] [.ref p, .ref q] = [some (.ref p), some (.ref q)] from rfl]
    walk_at "rd"
    exact mk_ratio (Int.ne_of_gt (Int.mul_pos hb hd)) (Nat.lt_of_lt_of_le (wide_lt sb sd) (Nat.pow_le_pow_right (by decide) (by decide))) k

theorem ok_Ratio_neg {f : Addr} {fd : FuncData} (F : L2.Fun K "__neg__" "Ratio.__neg__" s_Ratio_neg f fd)
    {C_BadRatio : Addr} (T_BadRatio : S_BadRatio K mg C_BadRatio)
    {C_Ratio : Addr} (T_Ratio : S_Ratio K mg C_Ratio)
    {f_Ratio_init : Addr} {fd_Ratio_init : FuncData} (G_Ratio_init : FnOk P w K mg base (L2.CX P w) 1 f_Ratio_init fd_Ratio_init ["self", "top", "bottom"] (sp_Ratio_init C_Ratio C_BadRatio)) (b_Ratio_init : Binds K fd_Ratio_init ["self", "top", "bottom"] []) (I_Ratio : Mk K C_Ratio f_Ratio_init) :
    FnOk P w K mg base CX0 3 f fd ["self"] (sp_Ratio_neg C_Ratio) := by
  refine F.ok sc_Ratio_neg (fun vs H Q E h => ?_) (fun cdv A outer s H vs Q E hr h => ?_)
  · obtain ⟨p, a, b, rfl, _⟩ := h
    rfl
  · obtain ⟨p, a, b, rfl, ⟨dp, hp⟩, hb, sb, k⟩ := h
    refine ⟨_, (pss_one (ps_ret (pe_make I_Ratio G_Ratio_init (hr.mono (by decide)) (by rfl) T_Ratio.mg b_Ratio_init .nil passL (pa_cons (pe_un un_neg (pe_fld (pv 0) rfl)) (pa_cons (pe_fld (pv 0) rfl) pa_nil))))), ?_⟩
    rw [show L2.start ["self"] [.ref p] = [some (.ref p)] from rfl]
    walk_at "rd"
    exact mk_ratio (by omega) (Nat.lt_of_lt_of_le sb (Nat.pow_le_pow_right (by decide) (by decide))) k

theorem ok_Ratio_eq {f : Addr} {fd : FuncData} (F : L2.Fun K "__eq__" "Ratio.__eq__" s_Ratio_eq f fd)
    {C_Ratio : Addr} (T_Ratio : S_Ratio K mg C_Ratio)
    (z_isinstance : mg "isinstance" = none) :
    FnOk P w K mg base CX0 1 f fd ["self", "other"] (sp_Ratio_eq C_Ratio) := by
  refine F.ok sc_Ratio_eq (fun vs H Q E h => ?_) (fun cdv A outer s H vs Q E hr h => ?_)
  · obtain ⟨p, q, a, b, c, d, rfl, _⟩ := h
    rfl
  · obtain ⟨p, q, a, b, c, d, rfl, ⟨dp, hp⟩, ⟨dq, hq⟩, k⟩ := h
    refine ⟨_, (pss_one (ps_ret (pe_and (pe_callB call_isi (by rfl) z_isinstance (by decide +kernel) (pa_cons (pv 1) (pa_cons (C8.pe_gc (v := .ref C_Ratio) (by rfl) ⟨_, T_Ratio.mg, rfl⟩) pa_nil))) (pe_and (pe_cmpR op_eq (pe_fld (pv 0) rfl) (pe_fld (pv 1) rfl) (nomark _)) (pe_one (pe_cmpR op_eq (pe_fld (pv 0) rfl) (pe_fld (pv 1) rfl) (nomark _))))))), ?_⟩
    rw [show L2.start ["self", "other"] [.ref p, .ref q] = [some (.ref p), some (.ref q)] from rfl]
    have me := T_Ratio.me
    walk_at "rd"
    refine R.iteD (fun h => ?_) (fun h => ?_)
    · walk_at "rd"
      subst h
      simpa using k
    · walk_at "rd"
      rw [decide_eq_false (fun z => h z.1)] at k
      exact k

theorem ok_Ratio_compare {f : Addr} {fd : FuncData} (F : L2.Fun K "compare" "Ratio.compare" s_Ratio_compare f fd)
    {C_Ratio : Addr} (T_Ratio : S_Ratio K mg C_Ratio) :
    FnOk P w K mg base CX0 1 f fd ["self", "other"] (sp_Ratio_compare C_Ratio) := by
  refine F.ok sc_Ratio_compare (fun vs H Q E h => ?_) (fun cdv A outer s H vs Q E hr h => ?_)
  · obtain ⟨p, q, a, b, c, d, rfl, _⟩ := h
    rfl
  · obtain ⟨p, q, a, b, c, d, rfl, ⟨dp, hp⟩, ⟨dq, hq⟩, sa, sb, sc, sd, k⟩ := h
    refine ⟨_, (pss_cons (ps_set (i := 2) sc_Ratio_compare.nd rfl (by first | exact Or.inl rfl | exact Or.inr rfl) (pe_op op_mulW (pe_fld (pv 0) rfl) (pe_fld (pv 1) rfl)))
      (pss_cons (ps_set (i := 3) sc_Ratio_compare.nd rfl (by first | exact Or.inl rfl | exact Or.inr rfl) (pe_op op_mulW (pe_fld (pv 1) rfl) (pe_fld (pv 0) rfl)))
      (pss_cons (ps_if (pt_cmpR op_lt (pv 2) (pv 3) (nomark _))
      (pss_one (ps_ret (pe_un un_neg pe_int)))
      pss_nil)
      (pss_cons (ps_if (pt_cmpR op_gt (pv 2) (pv 3) (nomark _))
      (pss_one (ps_ret pe_int))
      pss_nil)
      (pss_one (ps_ret pe_int)))))), ?_⟩
    rw [show L2.start ["self", "other", "left", "right"] [.ref p, .ref q] = [some (.ref p), some (.ref q), none, none] from rfl]
    walk_at "rd"
    refine R.iteD (fun h => ?_) (fun h => ?_)
    · walk_at "rd"
      rw [if_pos h] at k
      exact k
    · walk_at "rd"
      rw [if_neg h] at k
      refine R.iteD (fun h2 => ?_) (fun h2 => ?_)
      · walk_at "rd"
        rw [if_pos h2] at k
        exact k
      · walk_at "rd"
        rw [if_neg h2] at k
        exact k

theorem ok_Ratio_floor {f : Addr} {fd : FuncData} (F : L2.Fun K "floor" "Ratio.floor" s_Ratio_floor f fd)
    {C_Ratio : Addr} (T_Ratio : S_Ratio K mg C_Ratio) :
    FnOk P w K mg base CX0 1 f fd ["self"] (sp_Ratio_floor C_Ratio) := by
  refine F.ok sc_Ratio_floor (fun vs H Q E h => ?_) (fun cdv A outer s H vs Q E hr h => ?_)
  · obtain ⟨p, a, b, rfl, _⟩ := h
    rfl
  · obtain ⟨p, a, b, rfl, ⟨dp, hp⟩, hb, sb, k⟩ := h
    refine ⟨_, (pss_one (ps_ret (pe_op OW.op_fdivA (pe_fld (pv 0) rfl) (pe_fld (pv 0) rfl)))), ?_⟩
    rw [show L2.start ["self"] [.ref p] = [some (.ref p)] from rfl]
    have hd : OW.CDivA a b := ⟨by omega, Nat.lt_of_lt_of_le (lg sb (by decide)) (by decide)⟩
    walk_at "rd"
    exact k

theorem ok_Ratio_ceiling {f : Addr} {fd : FuncData} (F : L2.Fun K "ceiling" "Ratio.ceiling" s_Ratio_ceiling f fd)
    {C_Ratio : Addr} (T_Ratio : S_Ratio K mg C_Ratio)
    {f_f_ceil_div : Addr} {fd_f_ceil_div : FuncData} (G_f_ceil_div : FnOk P w K mg base CX0 1 f_f_ceil_div fd_f_ceil_div ["x", "y"] sp_f_ceil_div) (m_f_ceil_div : mg "ceil_div" = some (.ref f_f_ceil_div)) (k_f_ceil_div : PySem.W.keepIn K (.ref f_f_ceil_div) = true) (b_f_ceil_div : Binds K fd_f_ceil_div ["x", "y"] []) :
    FnOk P w K mg base CX0 2 f fd ["self"] (sp_Ratio_ceiling C_Ratio) := by
  refine F.ok sc_Ratio_ceiling (fun vs H Q E h => ?_) (fun cdv A outer s H vs Q E hr h => ?_)
  · obtain ⟨p, a, b, rfl, _⟩ := h
    rfl
  · obtain ⟨p, a, b, rfl, ⟨dp, hp⟩, hb, sb, k⟩ := h
    refine ⟨_, (pss_one (ps_ret (pe_call G_f_ceil_div (hr.mono (by decide)) (by rfl) m_f_ceil_div k_f_ceil_div b_f_ceil_div .nil pass0 (pa_cons (pe_fld (pv 0) rfl) (pa_cons (pe_fld (pv 0) rfl) pa_nil))))), ?_⟩
    rw [show L2.start ["self"] [.ref p] = [some (.ref p)] from rfl]
    walk_at "rd"
    exact ⟨a, b, rfl, hb, Nat.lt_of_lt_of_le sb (Nat.pow_le_pow_right (by decide) (by decide)), k⟩

theorem ok_Ratio_text {f : Addr} {fd : FuncData} (F : L2.Fun K "text" "Ratio.text" s_Ratio_text f fd)
    {C_Ratio : Addr} (T_Ratio : S_Ratio K mg C_Ratio)
    (z_str : mg "str" = none) :
    FnOk P w K mg base CX0 1 f fd ["self"] (sp_Ratio_text C_Ratio) := by
  refine F.ok sc_Ratio_text (fun vs H Q E h => ?_) (fun cdv A outer s H vs Q E hr h => ?_)
  · obtain ⟨p, a, b, rfl, _⟩ := h
    rfl
  · obtain ⟨p, a, b, rfl, ⟨dp, hp⟩, sa, sb, k⟩ := h
    refine ⟨_, (pss_cons (ps_if (pt_cmpR op_eq (pe_fld (pv 0) rfl) pe_int (nomark _))
      (pss_one (ps_ret (pe_callTy OW.c_strI (by rfl) z_str (by decide +kernel) (pa_cons (pe_fld (pv 0) rfl) pa_nil))))
      pss_nil)
      (pss_one (ps_ret (pe_joined (PJ.cons (OW.pe_fmtU (pe_fld (pv 0) rfl)) (PJ.cons pe_str (PJ.cons (OW.pe_fmtU (pe_fld (pv 0) rfl)) PJ.nil))))))), ?_⟩
    rw [show L2.start ["self"] [.ref p] = [some (.ref p)] from rfl]
    unfold txt at k
    walk_at "rd"
    refine R.iteD (fun h => ?_) (fun h => ?_)
    · walk_at "rd"
      rw [if_pos h] at k
      exact k
    · rw [if_neg h] at k
      have la := txt_len sa
      have lb := txt_len sb
      have l0 : Str.empty.length = 0 := rfl
      have l1 : (("/" : Str)).length = 1 := rfl
      have ez := sizeLine_eq
      have e1 : (Str.empty ++ Str.ofString (toString a)).length ≤ sizeLine := by
        rw [Str.length_append]
        omega
      have e2 : (Str.empty ++ Str.ofString (toString a) ++ ("/" : Str)).length ≤ sizeLine := by
        rw [Str.length_append, Str.length_append]
        omega
      have e3 : (Str.empty ++ Str.ofString (toString a) ++ ("/" : Str) ++ Str.ofString (toString b)).length ≤ sizeLine := by
        rw [Str.length_append, Str.length_append, Str.length_append]
        omega
      walk_at "rd"
      rw [Str.empty_append, Str.append_assoc]
      exact k

theorem ok_l_cell {f : Addr} {fd : FuncData} (F : L2.Fun K "_law_cell" "_law_cell" s_l_cell f fd)
    (z_len : mg "len" = none) :
    FnOk P w K mg base CX0 1 f fd ["script", "k"] (sp_l_cell K) := by
  refine F.ok sc_l_cell (fun vs H Q E h => ?_) (fun cdv A outer s H vs Q E hr h => ?_)
  · obtain ⟨a, ns, k, rfl, _⟩ := h
    rfl
  · obtain ⟨a, ns, k, rfl, hS, q⟩ := h
    refine ⟨_, (pss_cons (ps_if (pt_cmpR op_lt (pv 1) (pe_callB OW.c_len (by rfl) z_len (by decide +kernel) (pa_cons (pv 0) pa_nil)) (nomark _))
      (pss_one (ps_ret (pe_ix ix_list (pv 0) (pv 1) (fun _ _ => rfl))))
      pss_nil)
      (pss_one (ps_ret (pe_op op_add (pe_op op_mul pe_int (pv 1)) pe_int)))), ?_⟩
    rw [show L2.start ["script", "k"] [.ref a, .int k] = [some (.ref a), some (.int k)] from rfl]
    walk_at "rd"
    refine R.iteD (fun h => ?_) (fun h => ?_)
    · have hk : k < ns.length := by
        rw [List.length_map] at h
        omega
      walk_at "rd"
      refine R.ixl hS (v := .int ns[k]) (atI_nat (by rw [List.getElem?_map, List.getElem?_eq_getElem hk]; rfl)) ?_
      exact q _
    · walk_at "rd"
      exact q _

theorem ok_l_pool {f : Addr} {fd : FuncData} (F : L2.Fun K "_law_pool" "_law_pool" s_l_pool f fd)
    (z_int : mg "int" = none) :
    FnOk P w K mg base CX0 1 f fd ["cell"] sp_l_pool := by
  refine F.ok sc_l_pool (fun vs H Q E h => ?_) (fun cdv A outer s H vs Q E hr h => ?_)
  · obtain ⟨i, rfl, _⟩ := h
    rfl
  · obtain ⟨i, rfl, q⟩ := h
    refine ⟨_, (pss_cons (ps_if (pt_cmpR op_ge (pv 0) (pe_op op_pow pe_int pe_int) (nomark _))
      (pss_one (ps_ret (pe_lst (pa_cons (pe_op op_sub (pv 0) (pe_op op_pow pe_int pe_int)) (pa_cons (pe_op op_mod (pe_callTy OW.c_int1 (by rfl) z_int (by decide +kernel) (pa_cons (pv 0) pa_nil)) pe_int) (pa_cons pe_int pa_nil))))))
      pss_nil)
      (pss_cons (ps_if (pt_cmpR op_lt (pv 0) pe_int (nomark _))
      (pss_one (ps_ret (pe_lst (pa_cons pe_int (pa_cons (pe_op op_mod (pe_callTy OW.c_int1 (by rfl) z_int (by decide +kernel) (pa_cons (pe_op op_sub pe_int (pe_op op_mul pe_int (pv 0))) pa_nil)) pe_int) (pa_cons pe_int pa_nil))))))
      pss_nil)
      (pss_one (ps_ret (pe_lst (pa_cons pe_int (pa_cons (pe_op op_mod (pe_callTy OW.c_int1 (by rfl) z_int (by decide +kernel) (pa_cons (pe_op op_mul pe_int (pv 0)) pa_nil)) pe_int) (pa_cons pe_int pa_nil)))))))), ?_⟩
    rw [show L2.start ["cell"] [.int i] = [some (.int i)] from rfl]
    walk_at "rd"
    refine R.iteD (fun h => ?_) (fun h => ?_)
    · walk_at "rd"
      exact fun p hp => q p _ _ _ hp
    · walk_at "rd"
      refine R.iteD (fun h => ?_) (fun h => ?_)
      · walk_at "rd"
        exact fun p hp => q p _ _ _ hp
      · walk_at "rd"
        exact fun p hp => q p _ _ _ hp

theorem ok_l_take {f : Addr} {fd : FuncData} (F : L2.Fun K "_law_take" "_law_take" s_l_take f fd)
    (z_int : mg "int" = none) :
    FnOk P w K mg base CX0 1 f fd ["pool", "size"] sp_l_take := by
  refine F.ok sc_l_take (fun vs H Q E h => ?_) (fun cdv A outer s H vs Q E hr h => ?_)
  · obtain ⟨a, n, rfl, _⟩ := h
    rfl
  · obtain ⟨a, n, rfl, ⟨p0, p1, p2, ha⟩, hn, hn2, q⟩ := h
    refine ⟨_, (pss_cons (ps_asg (pe_op op_add (pe_ix ix_list (pv 0) pe_int (fun _ _ => rfl)) pe_int) (pg_sub (pv 0) pe_int set_list))
      (pss_cons (ps_if (pt_cmpR op_gt (pe_ix ix_list (pv 0) pe_int (fun _ _ => rfl)) pe_int (nomark _))
      (pss_cons (ps_set (i := 2) sc_l_take.nd rfl (by first | exact Or.inl rfl | exact Or.inr rfl) (pe_op op_mod (pe_callTy OW.c_int1 (by rfl) z_int (by decide +kernel) (pa_cons (pe_ix ix_list (pv 0) pe_int (fun _ _ => rfl)) pa_nil)) (pv 1)))
      (pss_cons (ps_asg (pe_op op_fdiv (pe_ix ix_list (pv 0) pe_int (fun _ _ => rfl)) (pv 1)) (pg_sub (pv 0) pe_int set_list))
      (pss_one (ps_ret (pv 2)))))
      pss_nil)
      (pss_cons (ps_set (i := 3) sc_l_take.nd rfl (by first | exact Or.inl rfl | exact Or.inr rfl) (pe_op op_mod (pe_callTy OW.c_int1 (by rfl) z_int (by decide +kernel) (pa_cons (pe_op op_add (pe_op op_add (pe_ix ix_list (pv 0) pe_int (fun _ _ => rfl)) (pe_op op_mul pe_int (pe_ix ix_list (pv 0) pe_int (fun _ _ => rfl)))) pe_int) pa_nil)) pe_int))
      (pss_cons (ps_set (i := 3) sc_l_take.nd rfl (by first | exact Or.inl rfl | exact Or.inr rfl) (pe_op op_mod (pe_callTy OW.c_int1 (by rfl) z_int (by decide +kernel) (pa_cons (pe_op op_add (pe_op op_add (pe_op op_mul (pv 3) (pv 3)) (pe_op op_mul pe_int (pe_ix ix_list (pv 0) pe_int (fun _ _ => rfl)))) pe_int) pa_nil)) pe_int))
      (pss_cons (ps_set (i := 3) sc_l_take.nd rfl (by first | exact Or.inl rfl | exact Or.inr rfl) (pe_op op_mod (pe_callTy OW.c_int1 (by rfl) z_int (by decide +kernel) (pa_cons (pe_op op_add (pe_op op_add (pe_op op_mul (pv 3) (pv 3)) (pe_op op_mul pe_int (pe_ix ix_list (pv 0) pe_int (fun _ _ => rfl)))) pe_int) pa_nil)) pe_int))
      (pss_one (ps_ret (pe_op op_mod (pe_callTy OW.c_int1 (by rfl) z_int (by decide +kernel) (pa_cons (pe_op op_fdiv (pv 3) pe_int) pa_nil)) (pv 1))))))))), ?_⟩
    rw [show L2.start ["pool", "size", "digit", "x"] [.ref a, .int n] = [some (.ref a), some (.int n), none, none] from rfl]
    walk_at "rd"
    refine R.iteD (fun h => ?_) (fun h => ?_)
    · walk_at "rd"
      rw [upd_upd]
      exact q _ _ (Int.emod_nonneg _ (by omega)) (Int.emod_lt_of_pos _ hn) ⟨_, _, _, upd_same⟩ Chg.upd
    · walk_at "rd"
      exact q _ _ (Int.emod_nonneg _ (by omega)) (Int.emod_lt_of_pos _ hn) ⟨_, _, _, upd_same⟩ Chg.upd

theorem ok_l_int {f : Addr} {fd : FuncData} (F : L2.Fun K "_law_int" "_law_int" s_l_int f fd)
    (z_bool : mg "bool" = none)
    (z_int : mg "int" = none)
    (z_isinstance : mg "isinstance" = none)
    (kit_int_bool : PySem.W.kitOne K (.type "int") (.type "bool") = some false)
    (kit_int_int : PySem.W.kitOne K (.type "int") (.type "int") = some true) :
    FnOk P w K mg base CX0 1 f fd ["x"] (sp_l_int K) := by
  refine F.ok sc_l_int (fun vs H Q E h => ?_) (fun cdv A outer s H vs Q E hr h => ?_)
  · obtain ⟨i, rfl, _⟩ := h
    rfl
  · obtain ⟨i, rfl, q⟩ := h
    refine ⟨_, (pss_one (ps_ret (pe_and (pe_callB call_isi (by rfl) z_isinstance (by decide +kernel) (pa_cons (pv 0) (pa_cons (pe_bltn (v := .ty "int") (by rfl) z_int (by decide +kernel) rfl) pa_nil))) (pe_one (pe_not (pe_callB call_isi (by rfl) z_isinstance (by decide +kernel) (pa_cons (pv 0) (pa_cons (pe_bltn (v := .ty "bool") (by rfl) z_bool (by decide +kernel) rfl) pa_nil)))))))), ?_⟩
    rw [show L2.start ["x"] [.int i] = [some (.int i)] from rfl]
    walk_at "rd"
    -- kit_int_int kit_int_bool
    exact q

theorem ok_l_number {f : Addr} {fd : FuncData} (F : L2.Fun K "_law_number" "_law_number" s_l_number f fd)
    (z_range : mg "range" = none)
    {f_l_take : Addr} {fd_l_take : FuncData} (G_l_take : FnOk P w K mg base CX0 1 f_l_take fd_l_take ["pool", "size"] sp_l_take) (m_l_take : mg "_law_take" = some (.ref f_l_take)) (k_l_take : PySem.W.keepIn K (.ref f_l_take) = true) (b_l_take : Binds K fd_l_take ["pool", "size"] []) :
    FnOk P w K mg base CX0 2 f fd ["pool", "parts"] sp_l_number := by
  refine F.ok sc_l_number (fun vs H Q E h => ?_) (fun cdv A outer s H vs Q E hr h => ?_)
  · obtain ⟨a, n, rfl, _⟩ := h
    rfl
  · obtain ⟨a, n, rfl, hP, hn, q⟩ := h
    refine ⟨_, (pss_cons (ps_set (i := 2) sc_l_number.nd rfl (by first | exact Or.inl rfl | exact Or.inr rfl) pe_int)
      (pss_cons (ps_for PassesOwn.never rfl (pi_range1 (by rfl) z_range (pa_cons (pv 1) pa_nil)) (pg_name (i := 3) sc_l_number.nd rfl (by first | exact Or.inl rfl | exact Or.inr rfl))
      (pss_one (ps_set (i := 2) sc_l_number.nd rfl (by first | exact Or.inl rfl | exact Or.inr rfl) (pe_op op_add (pe_op op_mul (pv 2) pe_int) (pe_call G_l_take (hr.mono (by decide)) (by rfl) m_l_take k_l_take b_l_take .nil pass0 (pa_cons (pv 0) (pa_cons pe_int pa_nil)))))))
      (pss_one (ps_ret (pv 2))))), ?_⟩
    rw [show L2.start ["pool", "parts", "number", "k"] [.ref a, .int n] = [some (.ref a), some (.int n), none, none] from rfl]
    walk_at "rd"
    refine for_range (lo := 0) (fun i σ H' => ∃ (d : Int) (v : Option V), σ = [some (.ref a), some (.int n), some (.int d), v] ∧ 0 ≤ d ∧ d < 100000 ^ i ∧ PoolAt H' a ∧ Chg a H H') ⟨0, none, rfl, by decide, by decide, hP, Chg.refl a H⟩ ?_ ?_
    · rintro i σ H1 hi ⟨d, v, rfl, h0, h1, hP1, c1⟩
      have hi2 : i < n := by omega
      walk_at "rd"
      refine ⟨a, _, rfl, hP1, by decide, by decide, fun d2 H2 g0 g1 hP2 c2 => ?_⟩
      walk_at "rd"
      exact ⟨_, _, rfl, by omega, by rw [Int.pow_succ]; omega, hP2, c1.trans c2⟩
    · rintro σ H1 ⟨d, v, rfl, h0, h1, hP1, c1⟩
      walk_at "rd"
      exact q d H1 h0 (by simpa using h1) hP1 c1

theorem ok_l_terms {f : Addr} {fd : FuncData} (F : L2.Fun K "_law_terms" "_law_terms" s_l_terms f fd)
    (z_max : mg "max" = none)
    {f_l_number : Addr} {fd_l_number : FuncData} (G_l_number : FnOk P w K mg base CX0 2 f_l_number fd_l_number ["pool", "parts"] sp_l_number) (m_l_number : mg "_law_number" = some (.ref f_l_number)) (k_l_number : PySem.W.keepIn K (.ref f_l_number) = true) (b_l_number : Binds K fd_l_number ["pool", "parts"] [])
    {f_l_take : Addr} {fd_l_take : FuncData} (G_l_take : FnOk P w K mg base CX0 1 f_l_take fd_l_take ["pool", "size"] sp_l_take) (m_l_take : mg "_law_take" = some (.ref f_l_take)) (k_l_take : PySem.W.keepIn K (.ref f_l_take) = true) (b_l_take : Binds K fd_l_take ["pool", "size"] []) :
    FnOk P w K mg base CX0 3 f fd ["pool"] (sp_l_terms) := by
  refine F.ok sc_l_terms (fun vs H Q E h => ?_) (fun cdv A outer s H vs Q E hr h => ?_)
  · obtain ⟨a, rfl, _⟩ := h
    rfl
  · obtain ⟨a, rfl, hP, q⟩ := h
    refine ⟨_, (pss_cons (ps_set (i := 1) sc_l_terms.nd rfl (by first | exact Or.inl rfl | exact Or.inr rfl) (pe_call G_l_take (hr.mono (by decide)) (by rfl) m_l_take k_l_take b_l_take .nil pass0 (pa_cons (pv 0) (pa_cons pe_int pa_nil))))
      (C8.pss_cut (ps_if (pt_cmpR op_lt (pv 1) pe_int (nomark _))
      (pss_cons (ps_set (i := 2) sc_l_terms.nd rfl (by first | exact Or.inl rfl | exact Or.inr rfl) (pe_call G_l_take (hr.mono (by decide)) (by rfl) m_l_take k_l_take b_l_take .nil pass0 (pa_cons (pv 0) (pa_cons pe_int pa_nil))))
      (pss_one (ps_set (i := 3) sc_l_terms.nd rfl (by first | exact Or.inl rfl | exact Or.inr rfl) (pe_op op_add pe_int (pe_call G_l_take (hr.mono (by decide)) (by rfl) m_l_take k_l_take b_l_take .nil pass0 (pa_cons (pv 0) (pa_cons pe_int pa_nil)))))))
      (pss_cons (ps_set (i := 4) sc_l_terms.nd rfl (by first | exact Or.inl rfl | exact Or.inr rfl) (pe_ix ix_list (pe_lst (pa_cons pe_int (pa_cons pe_int (pa_cons pe_int (pa_cons pe_int pa_nil))))) (pe_op op_sub (pv 1) pe_int) (fun _ _ => rfl)))
      (pss_cons (ps_set (i := 2) sc_l_terms.nd rfl (by first | exact Or.inl rfl | exact Or.inr rfl) (pe_call G_l_number (hr.mono (by decide)) (by rfl) m_l_number k_l_number b_l_number .nil pass0 (pa_cons (pv 0) (pa_cons (pv 4) pa_nil))))
      (pss_one (ps_set (i := 3) sc_l_terms.nd rfl (by first | exact Or.inl rfl | exact Or.inr rfl) (pe_callB (OW.c_max2 rfl) (by rfl) z_max (by decide +kernel) (pa_cons pe_int (pa_cons (pe_call G_l_number (hr.mono (by decide)) (by rfl) m_l_number k_l_number b_l_number .nil pass0 (pa_cons (pv 0) (pa_cons (pv 4) pa_nil))) pa_nil))))))))
      (pss_cons (ps_if (pt_cmpR op_eq (pe_call G_l_take (hr.mono (by decide)) (by rfl) m_l_take k_l_take b_l_take .nil pass0 (pa_cons (pv 0) (pa_cons pe_int pa_nil))) pe_int (nomark _))
      (pss_one (ps_set (i := 2) sc_l_terms.nd rfl (by first | exact Or.inl rfl | exact Or.inr rfl) pe_int))
      pss_nil)
      (pss_cons (ps_if (pt_cmpR op_eq (pe_call G_l_take (hr.mono (by decide)) (by rfl) m_l_take k_l_take b_l_take .nil pass0 (pa_cons (pv 0) (pa_cons pe_int pa_nil))) pe_int (nomark _))
      (pss_one (ps_set (i := 2) sc_l_terms.nd rfl (by first | exact Or.inl rfl | exact Or.inr rfl) (pe_un un_neg (pv 2))))
      pss_nil)
      (pss_one (ps_ret (pe_lst (pa_cons (pv 2) (pa_cons (pv 3) (pa_cons (pe_cmpR op_eq (pv 1) pe_int (nomark _)) pa_nil)))))))))), ?_⟩
    rw [show L2.start ["pool", "style", "over", "under", "parts"] [.ref a] = [some (.ref a), none, none, none, none] from rfl]
    walk_at "rd"
    refine ⟨a, _, rfl, hP, by decide, by decide, fun st H1 h0 h1 hP1 c1 => ?_⟩
    walk_at "rd"
    refine ⟨fun σ' H' => ∃ (o u : Int) (pp : Option V), σ' = [some (.ref a), some (.int st), some (.int o), some (.int u), pp] ∧ 0 ≤ o ∧ o.natAbs < 2 ^ 200 ∧ 0 < u ∧ u.natAbs < 2 ^ 200 ∧ PoolAt H' a ∧ Chg a H H', ?_, ?_⟩
    · walk_at "rd"
      refine R.iteD (fun h => ?_) (fun h => ?_)
      · walk_at "rd"
        refine ⟨a, _, rfl, hP1, by decide, by decide, fun o H2 g0 g1 hP2 c2 => ?_⟩
        walk_at "rd"
        refine ⟨a, _, rfl, hP2, by decide, by decide, fun u H3 e0 e1 hP3 c3 => ?_⟩
        walk_at "rd"
        exact ⟨_, _, _, rfl, g0, by omega, by omega, by omega, hP3, (c1.trans c2).trans c3⟩
      · have hat : ∃ n : Nat, n ≤ 12 ∧ atI [V.int 2, V.int 2, V.int 8, V.int 12] (st - 4) = some (.int n) := by
          have : st = 4 ∨ st = 5 ∨ st = 6 ∨ st = 7 := by omega
          rcases this with rfl | rfl | rfl | rfl
          · exact ⟨2, by decide, rfl⟩
          · exact ⟨2, by decide, rfl⟩
          · exact ⟨8, by decide, rfl⟩
          · exact ⟨12, by decide, rfl⟩
        obtain ⟨n, hn, hat⟩ := hat
        walk_at "rd"
        intro l hl
        walk_at "rd"
        have hla := hP1.ne hl
        have hP2 := hP1.keep (same_upd (o := .lst [V.int 2, V.int 2, V.int 8, V.int 12]) hl)
        have c2 := c1.new (o := .lst [V.int 2, V.int 2, V.int 8, V.int 12]) hl hP1.some
        refine ⟨a, n, rfl, hP2, hn, fun o H3 g0 g1 hP3 c3 => ?_⟩
        walk_at "rd"
        refine ⟨a, n, rfl, hP3, hn, fun u H4 e0 e1 hP4 c4 => ?_⟩
        have so := pow_small g0 g1 hn
        have su := pow_small e0 e1 hn
        walk_at "rd"
        exact ⟨_, _, _, rfl, g0, so, by split <;> omega, by split <;> omega, hP4, (c2.trans c3).trans c4⟩
    · rintro σ' H2 ⟨o, u, pp, rfl, g0, ho, hu, hu2, hP2, c2⟩
      walk_at "rd"
      refine ⟨a, _, rfl, hP2, by decide, by decide, fun d H3 e0 e1 hP3 c3 => ?_⟩
      walk_at "rd"
      refine R.iteD (fun h => ?_) (fun h => ?_)
      all_goals
        walk_at "rd"
        refine ⟨a, _, rfl, hP3, by decide, by decide, fun d2 H4 e2 e3 hP4 c4 => ?_⟩
        walk_at "rd"
        refine R.iteD (fun h2 => ?_) (fun h2 => ?_)
        all_goals
          walk_at "rd"
          intro r hr
          have hra := hP4.ne hr
          have c5 := (c2.trans c3).trans c4
          refine q _ u _ r _ (by omega) hu hu2 (c5.free hP4.some hr) hra upd_same ?_ (c5.new hr hP4.some)
          exact hP4.keep (same_upd hr)

theorem ok_l_passed {f : Addr} {fd : FuncData} (F : L2.Fun K "_law_passed" "_law_passed" s_l_passed f fd)
    (z_max : mg "max" = none)
    {f_l_number : Addr} {fd_l_number : FuncData} (G_l_number : FnOk P w K mg base CX0 2 f_l_number fd_l_number ["pool", "parts"] sp_l_number) (m_l_number : mg "_law_number" = some (.ref f_l_number)) (k_l_number : PySem.W.keepIn K (.ref f_l_number) = true) (b_l_number : Binds K fd_l_number ["pool", "parts"] [])
    {f_l_take : Addr} {fd_l_take : FuncData} (G_l_take : FnOk P w K mg base CX0 1 f_l_take fd_l_take ["pool", "size"] sp_l_take) (m_l_take : mg "_law_take" = some (.ref f_l_take)) (k_l_take : PySem.W.keepIn K (.ref f_l_take) = true) (b_l_take : Binds K fd_l_take ["pool", "size"] []) :
    FnOk P w K mg base CX0 3 f fd ["pool", "terms"] (sp_l_passed) := by
  refine F.ok sc_l_passed (fun vs H Q E h => ?_) (fun cdv A outer s H vs Q E hr h => ?_)
  · obtain ⟨a, t, o, u, b, rfl, _⟩ := h
    rfl
  · obtain ⟨a, t, o, u, b, rfl, hP, ht, hta, ho, hu, hu2, q⟩ := h
    refine ⟨_, (pss_cons (ps_set (i := 2) sc_l_passed.nd rfl (by first | exact Or.inl rfl | exact Or.inr rfl) pe_int)
      (pss_cons (ps_set (i := 3) sc_l_passed.nd rfl (by first | exact Or.inl rfl | exact Or.inr rfl) (pe_call G_l_take (hr.mono (by decide)) (by rfl) m_l_take k_l_take b_l_take .nil pass0 (pa_cons (pv 0) (pa_cons pe_int pa_nil))))
      (C8.pss_cut (ps_if (PW.pt (pw_and (pt_cmpR op_eq (pv 3) pe_int (nomark _)) (pw_and1 (pt_not (pt_val (pe_ix ix_list (pv 1) pe_int (fun _ _ => rfl)))))))
      (pss_one (ps_set (i := 2) sc_l_passed.nd rfl (by first | exact Or.inl rfl | exact Or.inr rfl) (pe_op op_add pe_int (pe_call G_l_take (hr.mono (by decide)) (by rfl) m_l_take k_l_take b_l_take .nil pass0 (pa_cons (pv 0) (pa_cons pe_int pa_nil))))))
      (pss_one (ps_if (PW.pt (pw_and (pt_cmpR op_eq (pv 3) pe_int (nomark _)) (pw_and1 (pt_not (pt_val (pe_ix ix_list (pv 1) pe_int (fun _ _ => rfl)))))))
      (pss_one (ps_set (i := 2) sc_l_passed.nd rfl (by first | exact Or.inl rfl | exact Or.inr rfl) (pe_callB (OW.c_max2 rfl) (by rfl) z_max (by decide +kernel) (pa_cons pe_int (pa_cons (pe_call G_l_number (hr.mono (by decide)) (by rfl) m_l_number k_l_number b_l_number .nil pass0 (pa_cons (pv 0) (pa_cons pe_int pa_nil))) pa_nil)))))
      pss_nil)))
      (pss_cons (ps_if (pt_cmpR op_eq (pe_call G_l_take (hr.mono (by decide)) (by rfl) m_l_take k_l_take b_l_take .nil pass0 (pa_cons (pv 0) (pa_cons pe_int pa_nil))) pe_int (nomark _))
      (pss_one (ps_set (i := 2) sc_l_passed.nd rfl (by first | exact Or.inl rfl | exact Or.inr rfl) (pe_un un_neg (pv 2))))
      pss_nil)
      (pss_one (ps_ret (pe_lst (pa_cons (pe_op op_mulW (pe_ix ix_list (pv 1) pe_int (fun _ _ => rfl)) (pv 2)) (pa_cons (pe_op op_mulW (pe_ix ix_list (pv 1) pe_int (fun _ _ => rfl)) (pv 2)) pa_nil))))))))), ?_⟩
    rw [show L2.start ["pool", "terms", "factor", "way"] [.ref a, .ref t] = [some (.ref a), some (.ref t), none, none] from rfl]
    walk_at "rd"
    refine ⟨a, _, rfl, hP, by decide, by decide, fun way H1 h0 h1 hP1 c1 => ?_⟩
    have ht1 := c1 _ _ hta ht
    walk_at "rd"
    refine ⟨fun σ' H' => ∃ (k : Int), σ' = [some (.ref a), some (.ref t), some (.int k), some (.int way)] ∧ 0 < k ∧ k.natAbs < 2 ^ 67 ∧ PoolAt H' a ∧ Chg a H H', ?_, ?_⟩
    · have one : ∃ k : Int, [some (V.ref a), some (V.ref t), some (V.int 1), some (V.int way)] = [some (V.ref a), some (V.ref t), some (V.int k), some (V.int way)] ∧ 0 < k ∧ k.natAbs < 2 ^ 67 ∧ PoolAt H1 a ∧ Chg a H H1 := ⟨1, rfl, by decide, by decide, hP1, c1⟩
      have second : b = false → way = 1 → ∀ (Q2 : VK), (∀ (d : Int) (H2 : Hp), 0 ≤ d → d < 100000 ^ 4 → PoolAt H2 a → Chg a H1 H2 → Q2 (.int d) H2) → sp_l_number [.ref a, .int 4] H1 Q2 E0 := fun _ _ Q2 k => ⟨a, 4, rfl, hP1, by decide, k⟩
      walk_at "rd"
      walk_at "sp"
      · walk_at "rd"
        walk_at "sp"
        · walk_at "rd"
          refine ⟨a, _, rfl, hP1, by decide, by decide, fun d H2 e0 e1 hP2 c2 => ?_⟩
          walk_at "rd"
          exact ⟨_, rfl, by omega, by omega, hP2, c1.trans c2⟩
        · walk_at "rd"
          exact one
      · walk_at "rd"
        walk_at "sp"
        · walk_at "rd"
          walk_at "sp"
          · walk_at "rd"
            refine ⟨a, 4, rfl, hP1, by decide, fun d H2 e0 e1 hP2 c2 => ?_⟩
            have e2 : (100000 : Int) ^ 4 < 2 ^ 67 := by decide
            walk_at "rd"
            exact ⟨_, rfl, by split <;> omega, by split <;> omega, hP2, c1.trans c2⟩
          · walk_at "rd"
            exact one
        · walk_at "rd"
          exact one
    · rintro σ' H2 ⟨k, rfl, k0, k1, hP2, c2⟩
      have ht2 := c2 _ _ hta ht
      walk_at "rd"
      refine ⟨a, _, rfl, hP2, by decide, by decide, fun d H3 e0 e1 hP3 c3 => ?_⟩
      have c4 := c2.trans c3
      have ht3 := c4 _ _ hta ht
      have fin : ∀ j : Int, j ≠ 0 → j.natAbs < 2 ^ 67 → ∀ r, H3 r = none → Q (.ref r) (upd H3 r (.lst [.int (o * j), .int (u * j)])) := fun j j0 j1 r hr =>
        q _ _ r _ (wide_lt ho j1) (Int.mul_ne_zero (by omega) j0) (wide_lt hu2 j1) (c4.free hP3.some hr) (hP3.ne hr) upd_same (hP3.keep (same_upd hr)) (c4.new hr hP3.some)
      walk_at "rd"
      refine R.iteD (fun h => ?_) (fun h => ?_)
      · have nk : (-k).natAbs < 2 ^ 67 := by omega
        walk_at "rd"
        exact fun r hr => fin (-k) (by omega) nk r hr
      · walk_at "rd"
        exact fun r hr => fin k (by omega) k1 r hr

theorem ok_l_nearer {f : Addr} {fd : FuncData} (F : L2.Fun K "_law_nearer" "_law_nearer" s_l_nearer f fd)
     :
    FnOk P w K mg base CX0 1 f fd ["pair"] sp_l_nearer := by
  refine F.ok sc_l_nearer (fun vs H Q E h => ?_) (fun cdv A outer s H vs Q E hr h => ?_)
  · obtain ⟨p, x, y, rfl, _⟩ := h
    rfl
  · obtain ⟨p, x, y, rfl, hp, q⟩ := h
    refine ⟨_, (pss_cons (ps_if (pt_cmpR op_gt (pe_ix ix_list (pv 0) pe_int (fun _ _ => rfl)) pe_int (nomark _))
      (pss_one (ps_ret (pe_lst (pa_cons (pe_op op_sub (pe_ix ix_list (pv 0) pe_int (fun _ _ => rfl)) pe_int) (pa_cons (pe_ix ix_list (pv 0) pe_int (fun _ _ => rfl)) pa_nil)))))
      pss_nil)
      (pss_one (ps_ret (pe_lst (pa_cons (pe_op op_add (pe_ix ix_list (pv 0) pe_int (fun _ _ => rfl)) pe_int) (pa_cons (pe_ix ix_list (pv 0) pe_int (fun _ _ => rfl)) pa_nil)))))), ?_⟩
    rw [show L2.start ["pair"] [.ref p] = [some (.ref p)] from rfl]
    walk_at "rd"
    refine R.iteD (fun h => ?_) (fun h => ?_)
    · walk_at "rd"
      exact fun r hr => q _ r (by omega) hr
    · walk_at "rd"
      exact fun r hr => q _ r (by omega) hr

theorem ok_l_coprime {f : Addr} {fd : FuncData} (F : L2.Fun K "_law_coprime" "_law_coprime" s_l_coprime f fd)
    (z_abs : mg "abs" = none)
    (z_int : mg "int" = none)
    (z_range : mg "range" = none) :
    FnOk P w K mg base CX0 1 f fd ["x", "y"] sp_l_coprime := by
  refine F.ok sc_l_coprime (fun vs H Q E h => ?_) (fun cdv A outer s H vs Q E hr h => ?_)
  · obtain ⟨x, y, rfl, _⟩ := h
    rfl
  · obtain ⟨x, y, rfl, hy, hs, hg, q⟩ := h
    refine ⟨_, (pss_cons (ps_set (i := 0) sc_l_coprime.nd rfl (by first | exact Or.inl rfl | exact Or.inr rfl) (pe_callB OW.c_abs (by rfl) z_abs (by decide +kernel) (pa_cons (pv 0) pa_nil)))
      (pss_cons (ps_for PassesOwn.never rfl (pi_range1 (by rfl) z_range (pa_cons pe_int pa_nil)) (pg_name (i := 2) sc_l_coprime.nd rfl (by first | exact Or.inl rfl | exact Or.inr rfl))
      (pss_cons (ps_if (pt_cmpR op_eq (pv 1) pe_int (nomark _))
      (pss_one (ps_ret (pe_cmpR op_eq (pv 0) pe_int (nomark _))))
      pss_nil)
      (pss_cons (ps_set (i := 3) sc_l_coprime.nd rfl (by first | exact Or.inl rfl | exact Or.inr rfl) (pe_op op_mod (pe_callTy OW.c_int1 (by rfl) z_int (by decide +kernel) (pa_cons (pv 0) pa_nil)) (pv 1)))
      (pss_cons (ps_set (i := 0) sc_l_coprime.nd rfl (by first | exact Or.inl rfl | exact Or.inr rfl) (pv 1))
      (pss_one (ps_set (i := 1) sc_l_coprime.nd rfl (by first | exact Or.inl rfl | exact Or.inr rfl) (pv 3)))))))
      (pss_one (ps_ret pe_bl)))), ?_⟩
    rw [show L2.start ["x", "y", "k", "rest"] [.int x, .int y] = [some (.int x), some (.int y), none, none] from rfl]
    walk_at "rd"
    refine for_range (lo := 0) (fun i σ H' => ∃ (X Y : Nat) (v w : Option V), σ = [some (.int X), some (.int Y), v, w] ∧ H' = H ∧ Nat.gcd X Y = 1 ∧ ((i = 0 ∧ 0 < Y ∧ Y < 2 ^ 850) ∨ ∃ n, i + n = 1299 ∧ Ends n X Y)) ⟨x.natAbs, y.natAbs, none, none, ?_, rfl, hg, .inl ⟨rfl, by omega, hs⟩⟩ ?_ ?_
    · have e1 : ((x.natAbs : Nat) : Int) = if x < 0 then -x else x := by split <;> omega
      have e2 : ((y.natAbs : Nat) : Int) = y := by omega
      rw [e1, e2]
    · rintro i σ H1 hi ⟨X, Y, v, w, rfl, rfl, hg1, hc⟩
      walk_at "rd"
      refine R.iteD (fun h => ?_) (fun h => ?_)
      · have hY : Y = 0 := by omega
        subst hY
        have hX : X = 1 := by simpa using hg1
        subst hX
        walk_at "rd"
        exact q
      · have hY : 0 < Y := by omega
        have hm : ((X % Y : Nat) : Int) = (X : Int) % (Y : Int) := Int.natCast_emod X Y
        walk_at "rd"
        rw [← hm]
        refine ⟨Y, X % Y, _, _, rfl, rfl, by rw [Nat.gcd_comm, ← Nat.gcd_rec, Nat.gcd_comm]; exact hg1, .inr ?_⟩
        rcases hc with ⟨rfl, hc0, hc1⟩ | ⟨n, hn, hE⟩
        · exact ⟨1298, rfl, Nat.le_of_lt (Nat.mod_lt _ hY), .inr (Nat.lt_of_lt_of_le hc1 (Nat.le_trans fib_big (by decide +kernel)))⟩
        · cases n with
          | zero => exact absurd hE.zero (by omega)
          | succ n => exact ⟨n, by omega, hE.step hY⟩
    · rintro σ H1 ⟨X, Y, v, w, rfl, rfl, hg1, hc⟩
      rcases hc with ⟨z, _⟩ | ⟨n, hn, _⟩
      · exact absurd z (by decide)
      · exfalso
        have : ((1300 : Int)).toNat = 1300 := rfl
        omega

theorem ok_l_holds {f : Addr} {fd : FuncData} (F : L2.Fun K "_law_holds" "_law_holds" s_l_holds f fd)
    {C_Ratio : Addr} (T_Ratio : S_Ratio K mg C_Ratio)
    (z_isinstance : mg "isinstance" = none)
    {f_l_coprime : Addr} {fd_l_coprime : FuncData} (G_l_coprime : FnOk P w K mg base CX0 1 f_l_coprime fd_l_coprime ["x", "y"] sp_l_coprime) (m_l_coprime : mg "_law_coprime" = some (.ref f_l_coprime)) (k_l_coprime : PySem.W.keepIn K (.ref f_l_coprime) = true) (b_l_coprime : Binds K fd_l_coprime ["x", "y"] [])
    {f_l_int : Addr} {fd_l_int : FuncData} (G_l_int : FnOk P w K mg base CX0 1 f_l_int fd_l_int ["x"] (sp_l_int K)) (m_l_int : mg "_law_int" = some (.ref f_l_int)) (k_l_int : PySem.W.keepIn K (.ref f_l_int) = true) (b_l_int : Binds K fd_l_int ["x"] []) :
    FnOk P w K mg base CX0 2 f fd ["fraction", "over", "under"] (sp_l_holds C_Ratio) := by
  refine F.ok sc_l_holds (fun vs H Q E h => ?_) (fun cdv A outer s H vs Q E hr h => ?_)
  · obtain ⟨p, t, b, over, under, rfl, _⟩ := h
    rfl
  · obtain ⟨p, t, b, over, under, rfl, ⟨dp, hp⟩, g, he, hu, hus, hts, hos, q⟩ := h
    refine ⟨_, (pss_cons (ps_if (pt_not (pt_val (pe_callB call_isi (by rfl) z_isinstance (by decide +kernel) (pa_cons (pv 0) (pa_cons (C8.pe_gc (v := .ref C_Ratio) (by rfl) ⟨_, T_Ratio.mg, rfl⟩) pa_nil)))))
      (pss_one (ps_ret pe_bl))
      pss_nil)
      (pss_cons (ps_if (PW.pt (pw_or (pt_not (pt_val (pe_call G_l_int (hr.mono (by decide)) (by rfl) m_l_int k_l_int b_l_int .nil pass0 (pa_cons (pe_fld (pv 0) rfl) pa_nil)))) (pw_or (pt_not (pt_val (pe_call G_l_int (hr.mono (by decide)) (by rfl) m_l_int k_l_int b_l_int .nil pass0 (pa_cons (pe_fld (pv 0) rfl) pa_nil)))) (pw_or1 (pt_cmpR op_lt (pe_fld (pv 0) rfl) pe_int (nomark _))))))
      (pss_one (ps_ret pe_bl))
      pss_nil)
      (pss_one (ps_ret (pe_and (pe_cmpR op_eq (pe_op op_mulW (pe_fld (pv 0) rfl) (pv 2)) (pe_op op_mulW (pv 1) (pe_fld (pv 0) rfl)) (nomark _)) (pe_one (pe_call G_l_coprime (hr.mono (by decide)) (by rfl) m_l_coprime k_l_coprime b_l_coprime .nil pass0 (pa_cons (pe_fld (pv 0) rfl) (pa_cons (pe_fld (pv 0) rfl) pa_nil))))))))), ?_⟩
    rw [show L2.start ["fraction", "over", "under"] [.ref p, .int over, .int under] = [some (.ref p), some (.int over), some (.int under)] from rfl]
    have me := T_Ratio.me
    have hb := cross_under g he hu
    have hbs : b.natAbs < 2 ^ 850 := Nat.lt_of_le_of_lt hb hus
    have hpos := g.pos
    walk_at "rd"
    refine ⟨t, rfl, ?_⟩
    walk_at "rd"
    refine ⟨b, rfl, ?_⟩
    walk_at "rd"
    refine ⟨t, b, rfl, hpos, hbs, g.cop, ?_⟩
    exact q

theorem ok_l_alone {f : Addr} {fd : FuncData} (F : L2.Fun K "_law_alone" "_law_alone" s_l_alone f fd)
    {C_Ratio : Addr} (T_Ratio : S_Ratio K mg C_Ratio)
    (z_isinstance : mg "isinstance" = none)
    (z_str : mg "str" = none)
    (kit_str_str : PySem.W.kitOne K (.type "str") (.type "str") = some true)
    {f_l_holds : Addr} {fd_l_holds : FuncData} (G_l_holds : FnOk P w K mg base CX0 2 f_l_holds fd_l_holds ["fraction", "over", "under"] (sp_l_holds C_Ratio)) (m_l_holds : mg "_law_holds" = some (.ref f_l_holds)) (k_l_holds : PySem.W.keepIn K (.ref f_l_holds) = true) (b_l_holds : Binds K fd_l_holds ["fraction", "over", "under"] [])
    {f_l_int : Addr} {fd_l_int : FuncData} (G_l_int : FnOk P w K mg base CX0 1 f_l_int fd_l_int ["x"] (sp_l_int K)) (m_l_int : mg "_law_int" = some (.ref f_l_int)) (k_l_int : PySem.W.keepIn K (.ref f_l_int) = true) (b_l_int : Binds K fd_l_int ["x"] [])
    {f_Ratio_ceiling : Addr} {fd_Ratio_ceiling : FuncData} (G_Ratio_ceiling : FnOk P w K mg base CX0 2 f_Ratio_ceiling fd_Ratio_ceiling ["self"] (sp_Ratio_ceiling C_Ratio)) (b_Ratio_ceiling : Binds K fd_Ratio_ceiling ["self"] []) (M_Ratio_ceiling : Meth K C_Ratio "ceiling" f_Ratio_ceiling)
    {f_Ratio_floor : Addr} {fd_Ratio_floor : FuncData} (G_Ratio_floor : FnOk P w K mg base CX0 1 f_Ratio_floor fd_Ratio_floor ["self"] (sp_Ratio_floor C_Ratio)) (b_Ratio_floor : Binds K fd_Ratio_floor ["self"] []) (M_Ratio_floor : Meth K C_Ratio "floor" f_Ratio_floor)
    {f_Ratio_neg : Addr} {fd_Ratio_neg : FuncData} (G_Ratio_neg : FnOk P w K mg base CX0 3 f_Ratio_neg fd_Ratio_neg ["self"] (sp_Ratio_neg C_Ratio)) (b_Ratio_neg : Binds K fd_Ratio_neg ["self"] []) (M_Ratio_neg : Meth K C_Ratio "__neg__" f_Ratio_neg)
    {f_Ratio_text : Addr} {fd_Ratio_text : FuncData} (G_Ratio_text : FnOk P w K mg base CX0 1 f_Ratio_text fd_Ratio_text ["self"] (sp_Ratio_text C_Ratio)) (b_Ratio_text : Binds K fd_Ratio_text ["self"] []) (M_Ratio_text : Meth K C_Ratio "text" f_Ratio_text) :
    FnOk P w K mg base CX0 4 f fd ["fraction", "pair"] (sp_l_alone K C_Ratio) := by
  refine F.ok sc_l_alone (fun vs H Q E h => ?_) (fun cdv A outer s H vs Q E hr h => ?_)
  · obtain ⟨p, q, t, b, over, under, rfl, _⟩ := h
    rfl
  · obtain ⟨p, q, t, b, over, under, rfl, hR, g, hq, hu, he, st, sb, so, su, k⟩ := h
    refine ⟨_, (pss_cons (ps_if (pt_not (pt_val (pe_call G_l_holds (hr.mono (by decide)) (by rfl) m_l_holds k_l_holds b_l_holds .nil pass0 (pa_cons (pv 0) (pa_cons (pe_ix ix_list (pv 1) pe_int (fun _ _ => rfl)) (pa_cons (pe_ix ix_list (pv 1) pe_int (fun _ _ => rfl)) pa_nil))))))
      (pss_one (ps_ret pe_bl))
      pss_nil)
      (pss_cons (ps_set (i := 2) sc_l_alone.nd rfl (by first | exact Or.inl rfl | exact Or.inr rfl) (pe_ix ix_list (pv 1) pe_int (fun _ _ => rfl)))
      (pss_cons (ps_set (i := 3) sc_l_alone.nd rfl (by first | exact Or.inl rfl | exact Or.inr rfl) (pe_ix ix_list (pv 1) pe_int (fun _ _ => rfl)))
      (C8.pss_cut (ps_if (pt_cmpR op_lt (pv 3) pe_int (nomark _))
      (pss_cons (ps_set (i := 2) sc_l_alone.nd rfl (by first | exact Or.inl rfl | exact Or.inr rfl) (pe_un un_neg (pv 2)))
      (pss_one (ps_set (i := 3) sc_l_alone.nd rfl (by first | exact Or.inl rfl | exact Or.inr rfl) (pe_un un_neg (pv 3)))))
      pss_nil)
      (pss_cons (ps_set (i := 4) sc_l_alone.nd rfl (by first | exact Or.inl rfl | exact Or.inr rfl) (pe_meth0 (pv 0) T_Ratio.cl M_Ratio_floor G_Ratio_floor (hr.mono (by decide)) b_Ratio_floor .nil pass0))
      (pss_cons (ps_if (PW.pt (pw_or (pt_not (pt_val (pe_call G_l_int (hr.mono (by decide)) (by rfl) m_l_int k_l_int b_l_int .nil pass0 (pa_cons (pv 4) pa_nil)))) (pw_or (pt_cmpR op_gt (pe_op op_mulW (pv 4) (pv 3)) (pv 2) (nomark _)) (pw_or1 (pt_cmpR op_ge (pv 2) (pe_op op_add (pe_op op_mulW (pv 4) (pv 3)) (pv 3)) (nomark _))))))
      (pss_one (ps_ret pe_bl))
      pss_nil)
      (pss_cons (ps_set (i := 5) sc_l_alone.nd rfl (by first | exact Or.inl rfl | exact Or.inr rfl) (pe_meth0 (pv 0) T_Ratio.cl M_Ratio_ceiling G_Ratio_ceiling (hr.mono (by decide)) b_Ratio_ceiling .nil pass0))
      (pss_cons (ps_if (PW.pt (pw_or (pt_not (pt_val (pe_call G_l_int (hr.mono (by decide)) (by rfl) m_l_int k_l_int b_l_int .nil pass0 (pa_cons (pv 5) pa_nil)))) (pw_or (pt_cmpR op_lt (pe_op op_mulW (pv 5) (pv 3)) (pv 2) (nomark _)) (pw_or1 (pt_cmpR op_le (pv 2) (pe_op op_sub (pe_op op_mulW (pv 5) (pv 3)) (pv 3)) (nomark _))))))
      (pss_one (ps_ret pe_bl))
      pss_nil)
      (pss_cons (ps_set (i := 6) sc_l_alone.nd rfl (by first | exact Or.inl rfl | exact Or.inr rfl) (pe_callTy OW.c_strI (by rfl) z_str (by decide +kernel) (pa_cons (pe_fld (pv 0) rfl) pa_nil)))
      (C8.pss_cut (ps_if (pt_cmpR op_ne (pe_fld (pv 0) rfl) pe_int (nomark _))
      (pss_one (ps_set (i := 6) sc_l_alone.nd rfl (by first | exact Or.inl rfl | exact Or.inr rfl) (pe_op OW.op_addS (pe_op OW.op_addS (pv 6) pe_str) (pe_callTy OW.c_strI (by rfl) z_str (by decide +kernel) (pa_cons (pe_fld (pv 0) rfl) pa_nil)))))
      pss_nil)
      (pss_cons (ps_set (i := 7) sc_l_alone.nd rfl (by first | exact Or.inl rfl | exact Or.inr rfl) (pe_meth0 (pv 0) T_Ratio.cl M_Ratio_text G_Ratio_text (hr.mono (by decide)) b_Ratio_text .nil pass0))
      (pss_cons (ps_if (PW.pt (pw_or (pt_not (pt_val (pe_callB call_isi (by rfl) z_isinstance (by decide +kernel) (pa_cons (pv 7) (pa_cons (pe_bltn (v := .ty "str") (by rfl) z_str (by decide +kernel) rfl) pa_nil))))) (pw_or1 (pt_cmpR op_ne (pv 7) (pv 6) (nomark _)))))
      (pss_one (ps_ret pe_bl))
      pss_nil)
      (pss_one (ps_ret (pe_call G_l_holds (hr.mono (by decide)) (by rfl) m_l_holds k_l_holds b_l_holds .nil pass0 (pa_cons (pe_un (OW.un_neg rfl M_Ratio_neg G_Ratio_neg (hr.mono (by decide)) b_Ratio_neg pass0) (pv 0)) (pa_cons (pe_un un_neg (pv 2)) (pa_cons (pv 3) pa_nil)))))))))))))))))), ?_⟩
    rw [show L2.start ["fraction", "pair", "over", "under", "low", "high", "due", "words"] [.ref p, .ref q] = [some (.ref p), some (.ref q), none, none, none, none, none, none] from rfl]
    have st6 := sz st (show 300 ≤ 700 by decide)
    have sb6 := sz sb (show 300 ≤ 700 by decide)
    have hpos := g.pos
    walk_at "rd"
    refine ⟨p, t, b, over, under, rfl, hR, g, he, hu, sz su (by decide), sz st (by decide), sz so (by decide), ?_⟩
    walk_at "rd"
    refine ⟨fun σ' H' => ∃ (o u : Int), σ' = [some (.ref p), some (.ref q), some (.int o), some (.int u), none, none, none, none] ∧ H' = H ∧ 0 < u ∧ t * u = o * b ∧ o.natAbs < 2 ^ 300 ∧ u.natAbs < 2 ^ 300, ?_, ?_⟩
    · walk_at "rd"
      walk_at "sp"
      · walk_at "rd"
        exact ⟨_, _, rfl, rfl, by omega, by grind, by omega, by omega⟩
      · walk_at "rd"
        exact ⟨_, _, rfl, rfl, by omega, he, so, su⟩
    · rintro σ' H1 ⟨o, u, rfl, rfl, hu0, he2, so2, su2⟩
      have fl := floor_ok hpos hu0 he2
      have cl := ceil_ok hpos hu0 he2
      have flz := szle (fdiv_sz (t := t) hpos) st
      have clz : (-((-t).fdiv b)).natAbs < 2 ^ 300 := by
        rw [Int.natAbs_neg]
        exact szle (fdiv_sz (t := -t) hpos) (by rw [Int.natAbs_neg]; exact st)
      have lt := txt_len st6
      have lb := txt_len sb6
      have ez := sizeLine_eq
      have l1 : (("/" : Str)).length = 1 := rfl
      have e2 : (Str.ofString (toString t)).length + (("/" : Str)).length ≤ sizeLine := by omega
      have e3 : (Str.ofString (toString t) ++ ("/" : Str)).length + (Str.ofString (toString b)).length ≤ sizeLine := by
        rw [Str.length_append]
        omega
      obtain ⟨dp, hp⟩ := id hR
      generalize hf : t.fdiv b = lo at *
      generalize hc : -((-t).fdiv b) = hi at *
      walk_at "rd"
      refine ⟨p, t, b, rfl, hR, hpos, sb6, ?_⟩
      rw [hf]
      walk_at "rd"
      refine ⟨_, rfl, ?_⟩
      walk_at "rd"
      refine ⟨p, t, b, rfl, hR, hpos, sb6, ?_⟩
      rw [hc]
      walk_at "rd"
      refine ⟨_, rfl, ?_⟩
      walk_at "rd"
      -- kit_str_str
      refine ⟨fun σ' H' => σ' = [some (.ref p), some (.ref q), some (.int o), some (.int u), some (.int lo), some (.int hi), some (.str (txt t b)), none] ∧ H' = H1, ?_, ?_⟩
      · unfold txt
        walk_at "rd"
        walk_at "sp"
        · walk_at "rd"
          rename_i hb1
          rw [if_neg (by omega), ← Str.append_assoc]
          exact ⟨rfl, rfl⟩
        · walk_at "rd"
          rename_i hb1
          rw [if_pos (by omega)]
          exact ⟨rfl, rfl⟩
      · rintro σ' H2 ⟨rfl, rfl⟩
        walk_at "rd"
        refine ⟨p, t, b, rfl, hR, st6, sb6, ?_⟩
        walk_at "rd"
        refine R.iteNF rfl ?_
        walk_at "rd"
        refine call_neg hR g sb6 (fun r H3 hr s3 T B hR3 hG hcr hT => ?_)
        walk_at "rd"
        exact ⟨r, T, B, _, _, rfl, hR3, hG, hcr _ _ (by grind), by omega, sz su2 (by decide), sz (szle hT st) (by decide), by rw [Int.natAbs_neg]; exact sz so2 (by decide), k H3 s3⟩

theorem ok_l_sums {f : Addr} {fd : FuncData} (F : L2.Fun K "_law_sums" "_law_sums" s_l_sums f fd)
    {C_Ratio : Addr} (T_Ratio : S_Ratio K mg C_Ratio)
    {f_l_holds : Addr} {fd_l_holds : FuncData} (G_l_holds : FnOk P w K mg base CX0 2 f_l_holds fd_l_holds ["fraction", "over", "under"] (sp_l_holds C_Ratio)) (m_l_holds : mg "_law_holds" = some (.ref f_l_holds)) (k_l_holds : PySem.W.keepIn K (.ref f_l_holds) = true) (b_l_holds : Binds K fd_l_holds ["fraction", "over", "under"] [])
    {f_Ratio_add : Addr} {fd_Ratio_add : FuncData} (G_Ratio_add : FnOk P w K mg base CX0 3 f_Ratio_add fd_Ratio_add ["self", "other"] (sp_Ratio_add C_Ratio)) (b_Ratio_add : Binds K fd_Ratio_add ["self", "other"] []) (M_Ratio_add : Meth K C_Ratio "__add__" f_Ratio_add)
    {f_Ratio_mul : Addr} {fd_Ratio_mul : FuncData} (G_Ratio_mul : FnOk P w K mg base CX0 3 f_Ratio_mul fd_Ratio_mul ["self", "other"] (sp_Ratio_mul C_Ratio)) (b_Ratio_mul : Binds K fd_Ratio_mul ["self", "other"] []) (M_Ratio_mul : Meth K C_Ratio "__mul__" f_Ratio_mul)
    {f_Ratio_sub : Addr} {fd_Ratio_sub : FuncData} (G_Ratio_sub : FnOk P w K mg base CX0 3 f_Ratio_sub fd_Ratio_sub ["self", "other"] (sp_Ratio_sub C_Ratio)) (b_Ratio_sub : Binds K fd_Ratio_sub ["self", "other"] []) (M_Ratio_sub : Meth K C_Ratio "__sub__" f_Ratio_sub) :
    FnOk P w K mg base CX0 4 f fd ["x", "y", "one", "other"] (sp_l_sums K C_Ratio) := by
  refine F.ok sc_l_sums (fun vs H Q E h => ?_) (fun cdv A outer s H vs Q E hr h => ?_)
  · obtain ⟨p, q, l, m, a, b, c, d, o0, o1, p0, p1, rfl, _⟩ := h
    rfl
  · obtain ⟨p, q, l, m, a, b, c, d, o0, o1, p0, p1, rfl, hx, hy, gx, gy, hl, hm, ho1, hp1, e1, e2, sa, sb, sc, sd, so0, so1, sp0, sp1, k⟩ := h
    refine ⟨_, (pss_cons (ps_set (i := 4) sc_l_sums.nd rfl (by first | exact Or.inl rfl | exact Or.inr rfl) (pe_op op_mulW (pe_ix ix_list (pv 2) pe_int (fun _ _ => rfl)) (pe_ix ix_list (pv 3) pe_int (fun _ _ => rfl))))
      (pss_cons (ps_set (i := 5) sc_l_sums.nd rfl (by first | exact Or.inl rfl | exact Or.inr rfl) (pe_op op_mulW (pe_ix ix_list (pv 3) pe_int (fun _ _ => rfl)) (pe_ix ix_list (pv 2) pe_int (fun _ _ => rfl))))
      (pss_cons (ps_set (i := 6) sc_l_sums.nd rfl (by first | exact Or.inl rfl | exact Or.inr rfl) (pe_op op_mulW (pe_ix ix_list (pv 2) pe_int (fun _ _ => rfl)) (pe_ix ix_list (pv 3) pe_int (fun _ _ => rfl))))
      (pss_cons (ps_if (PW.pt (pw_or (pt_not (pt_val (pe_call G_l_holds (hr.mono (by decide)) (by rfl) m_l_holds k_l_holds b_l_holds .nil pass0 (pa_cons (pe_op (OW.op_bin rfl M_Ratio_add T_Ratio.sf G_Ratio_add (hr.mono (by decide)) b_Ratio_add pass0) (pv 0) (pv 1)) (pa_cons (pe_op op_add (pv 4) (pv 5)) (pa_cons (pv 6) pa_nil)))))) (pw_or1 (pt_not (pt_val (pe_call G_l_holds (hr.mono (by decide)) (by rfl) m_l_holds k_l_holds b_l_holds .nil pass0 (pa_cons (pe_op (OW.op_bin rfl M_Ratio_add T_Ratio.sf G_Ratio_add (hr.mono (by decide)) b_Ratio_add pass0) (pv 1) (pv 0)) (pa_cons (pe_op op_add (pv 4) (pv 5)) (pa_cons (pv 6) pa_nil)))))))))
      (pss_one (ps_ret pe_bl))
      pss_nil)
      (pss_cons (ps_if (PW.pt (pw_or (pt_not (pt_val (pe_call G_l_holds (hr.mono (by decide)) (by rfl) m_l_holds k_l_holds b_l_holds .nil pass0 (pa_cons (pe_op (OW.op_bin rfl M_Ratio_sub T_Ratio.sf G_Ratio_sub (hr.mono (by decide)) b_Ratio_sub pass0) (pv 0) (pv 1)) (pa_cons (pe_op op_sub (pv 4) (pv 5)) (pa_cons (pv 6) pa_nil)))))) (pw_or1 (pt_not (pt_val (pe_call G_l_holds (hr.mono (by decide)) (by rfl) m_l_holds k_l_holds b_l_holds .nil pass0 (pa_cons (pe_op (OW.op_bin rfl M_Ratio_sub T_Ratio.sf G_Ratio_sub (hr.mono (by decide)) b_Ratio_sub pass0) (pv 1) (pv 0)) (pa_cons (pe_op op_sub (pv 5) (pv 4)) (pa_cons (pv 6) pa_nil)))))))))
      (pss_one (ps_ret pe_bl))
      pss_nil)
      (pss_one (ps_ret (pe_and (pe_call G_l_holds (hr.mono (by decide)) (by rfl) m_l_holds k_l_holds b_l_holds .nil pass0 (pa_cons (pe_op (OW.op_bin rfl M_Ratio_mul T_Ratio.sf G_Ratio_mul (hr.mono (by decide)) b_Ratio_mul pass0) (pv 0) (pv 1)) (pa_cons (pe_op op_mulW (pe_ix ix_list (pv 2) pe_int (fun _ _ => rfl)) (pe_ix ix_list (pv 3) pe_int (fun _ _ => rfl))) (pa_cons (pv 6) pa_nil)))) (pe_one (pe_call G_l_holds (hr.mono (by decide)) (by rfl) m_l_holds k_l_holds b_l_holds .nil pass0 (pa_cons (pe_op (OW.op_bin rfl M_Ratio_mul T_Ratio.sf G_Ratio_mul (hr.mono (by decide)) b_Ratio_mul pass0) (pv 1) (pv 0)) (pa_cons (pe_op op_mulW (pe_ix ix_list (pv 2) pe_int (fun _ _ => rfl)) (pe_ix ix_list (pv 3) pe_int (fun _ _ => rfl))) (pa_cons (pv 6) pa_nil))))))))))))), ?_⟩
    rw [show L2.start ["x", "y", "one", "other", "left", "right", "under"] [.ref p, .ref q, .ref l, .ref m] = [some (.ref p), some (.ref q), some (.ref l), some (.ref m), none, none, none] from rfl]
    have sa6 := sz sa (show 300 ≤ 700 by decide)
    have sb6 := sz sb (show 300 ≤ 700 by decide)
    have sc6 := sz sc (show 300 ≤ 700 by decide)
    have sd6 := sz sd (show 300 ≤ 700 by decide)
    have w1 := wide_lt so1 sp1
    have w2 := wide_lt so0 sp1
    have w3 := wide_lt sp0 so1
    have w4 := sz_add w2 w3
    have w5 := sz_sub w2 w3
    have w6 := sz_sub w3 w2
    have wad := wide_lt sa sd
    have wcb := wide_lt sc sb
    have wbd := wide_lt sb sd
    have hu : o1 * p1 ≠ 0 := Int.mul_ne_zero ho1 hp1
    have wda := wide_lt sd sa
    have wac := wide_lt sa sc
    have wca := wide_lt sc sa
    have wdb := wide_lt sd sb
    have wop := wide_lt so0 sp0
    walk_at "rd"
    obtain ⟨dp, hp⟩ := id hx
    obtain ⟨dq, hq⟩ := id hy
    walk_at "rd"
    refine call_add hx hy gx gy sa6 sb6 sc6 sd6 (fun r1 H1 hr1 s1 T B hR hG hc hT hB => ?_)
    walk_at "rd"
    refine ⟨r1, T, B, _, _, rfl, hR, hG, hc _ _ (x_add1 e1 e2), hu, sz w1 (by decide), sz (szle hT (sz_add wad wcb)) (by decide), sz w4 (by decide), ?_⟩
    have hx1 := hx.keep s1
    have hy1 := hy.keep s1
    have hl1 := s1 _ _ hl
    have hm1 := s1 _ _ hm
    have hp1' := s1 _ _ hp
    have hq1' := s1 _ _ hq
    walk_at "rd"
    refine call_add hy1 hx1 gy gx sc6 sd6 sa6 sb6 (fun r2 H2 hr2 s2 T B hR hG hc hT hB => ?_)
    walk_at "rd"
    refine ⟨r2, T, B, _, _, rfl, hR, hG, hc _ _ (x_add2 e1 e2), hu, sz w1 (by decide), sz (szle hT (sz_add wcb wad)) (by decide), sz w4 (by decide), ?_⟩
    have s12 := s1.trans s2
    have hx2 := hx.keep s12
    have hy2 := hy.keep s12
    have hp2' := s12 _ _ hp
    have hq2' := s12 _ _ hq
    walk_at "rd"
    refine call_sub hx2 hy2 gx gy sa6 sb6 sc6 sd6 (fun r3 H3 hr3 s3 T B hR hG hc hT hB => ?_)
    walk_at "rd"
    refine ⟨r3, T, B, _, _, rfl, hR, hG, hc _ _ (x_sub1 e1 e2), hu, sz w1 (by decide), sz (szle hT (sz_sub wad wcb)) (by decide), sz w5 (by decide), ?_⟩
    have s13 := s12.trans s3
    have hx3 := hx.keep s13
    have hy3 := hy.keep s13
    have hp3' := s13 _ _ hp
    have hq3' := s13 _ _ hq
    walk_at "rd"
    refine call_sub hy3 hx3 gy gx sc6 sd6 sa6 sb6 (fun r4 H4 hr4 s4 T B hR hG hc hT hB => ?_)
    walk_at "rd"
    refine ⟨r4, T, B, _, _, rfl, hR, hG, hc _ _ (x_sub2 e1 e2), hu, sz w1 (by decide), sz (szle hT (sz_sub wcb wad)) (by decide), sz w6 (by decide), ?_⟩
    have s14 := s13.trans s4
    have hx4 := hx.keep s14
    have hy4 := hy.keep s14
    have hl4 := s14 _ _ hl
    have hm4 := s14 _ _ hm
    have hp4' := s14 _ _ hp
    have hq4' := s14 _ _ hq
    walk_at "rd"
    refine call_mul hx4 hy4 gx gy sa6 sb6 sc6 sd6 (fun r5 H5 hr5 s5 T B hR hG hc hT hB => ?_)
    have s15 := s14.trans s5
    have hl5 := s15 _ _ hl
    have hm5 := s15 _ _ hm
    walk_at "rd"
    refine ⟨r5, T, B, _, _, rfl, hR, hG, hc _ _ (x_mul1 e1 e2), hu, sz w1 (by decide), sz (szle hT wac) (by decide), sz wop (by decide), ?_⟩
    have hx5 := hx.keep s15
    have hy5 := hy.keep s15
    have hp5' := s15 _ _ hp
    have hq5' := s15 _ _ hq
    walk_at "rd"
    refine call_mul hy5 hx5 gy gx sc6 sd6 sa6 sb6 (fun r6 H6 hr6 s6 T B hR hG hc hT hB => ?_)
    have s16 := s15.trans s6
    have hl6 := s16 _ _ hl
    have hm6 := s16 _ _ hm
    walk_at "rd"
    exact ⟨r6, T, B, _, _, rfl, hR, hG, hc _ _ (x_mul2 e1 e2), hu, sz w1 (by decide), sz (szle hT wca) (by decide), sz wop (by decide), k _ s16⟩

theorem ok_l_equals {f : Addr} {fd : FuncData} (F : L2.Fun K "_law_equals" "_law_equals" s_l_equals f fd)
    {C_Ratio : Addr} (T_Ratio : S_Ratio K mg C_Ratio)
    (z_bool : mg "bool" = none)
    (z_isinstance : mg "isinstance" = none)
    (kit_bool_bool : PySem.W.kitOne K (.type "bool") (.type "bool") = some true)
    {f_Ratio_eq : Addr} {fd_Ratio_eq : FuncData} (G_Ratio_eq : FnOk P w K mg base CX0 1 f_Ratio_eq fd_Ratio_eq ["self", "other"] (sp_Ratio_eq C_Ratio)) (b_Ratio_eq : Binds K fd_Ratio_eq ["self", "other"] []) (M_Ratio_eq : Meth K C_Ratio "__eq__" f_Ratio_eq) :
    FnOk P w K mg base CX0 2 f fd ["x", "y", "due"] (sp_l_equals C_Ratio) := by
  refine F.ok sc_l_equals (fun vs H Q E h => ?_) (fun cdv A outer s H vs Q E hr h => ?_)
  · obtain ⟨p, q, a, b, c, d, due, rfl, _⟩ := h
    rfl
  · obtain ⟨p, q, a, b, c, d, due, rfl, ⟨dp, hp⟩, ⟨dq, hq⟩, hd, k⟩ := h
    refine ⟨_, (pss_cons (ps_set (i := 3) sc_l_equals.nd rfl (by first | exact Or.inl rfl | exact Or.inr rfl) (pe_cmpR (OW.op_cmp rfl (fun _ _ => rfl) M_Ratio_eq T_Ratio.nf G_Ratio_eq (hr.mono (by decide)) b_Ratio_eq pass0) (pv 0) (pv 1) (nomark _)))
      (pss_one (ps_ret (pe_and (pe_callB call_isi (by rfl) z_isinstance (by decide +kernel) (pa_cons (pv 3) (pa_cons (pe_bltn (v := .ty "bool") (by rfl) z_bool (by decide +kernel) rfl) pa_nil))) (pe_one (pe_cmpR op_eq (pv 3) (pv 2) (nomark _))))))), ?_⟩
    rw [show L2.start ["x", "y", "due", "actual"] [.ref p, .ref q, .bl due] = [some (.ref p), some (.ref q), some (.bl due), none] from rfl]
    walk_at "rd"
    refine ⟨p, q, a, b, c, d, rfl, ⟨dp, hp⟩, ⟨dq, hq⟩, ?_⟩
    -- kit_bool_bool
    walk_at "rd"
    rw [hd, beq_self_eq_true]
    exact k

theorem ok_l_compares {f : Addr} {fd : FuncData} (F : L2.Fun K "_law_compares" "_law_compares" s_l_compares f fd)
    {C_Ratio : Addr} (T_Ratio : S_Ratio K mg C_Ratio)
    {f_l_int : Addr} {fd_l_int : FuncData} (G_l_int : FnOk P w K mg base CX0 1 f_l_int fd_l_int ["x"] (sp_l_int K)) (m_l_int : mg "_law_int" = some (.ref f_l_int)) (k_l_int : PySem.W.keepIn K (.ref f_l_int) = true) (b_l_int : Binds K fd_l_int ["x"] [])
    {f_Ratio_compare : Addr} {fd_Ratio_compare : FuncData} (G_Ratio_compare : FnOk P w K mg base CX0 1 f_Ratio_compare fd_Ratio_compare ["self", "other"] (sp_Ratio_compare C_Ratio)) (b_Ratio_compare : Binds K fd_Ratio_compare ["self", "other"] []) (M_Ratio_compare : Meth K C_Ratio "compare" f_Ratio_compare) :
    FnOk P w K mg base CX0 2 f fd ["x", "y", "due"] (sp_l_compares C_Ratio) := by
  refine F.ok sc_l_compares (fun vs H Q E h => ?_) (fun cdv A outer s H vs Q E hr h => ?_)
  · obtain ⟨p, q, a, b, c, d, due, rfl, _⟩ := h
    rfl
  · obtain ⟨p, q, a, b, c, d, due, rfl, hp, hq, sa, sb, sc, sd, hd, k⟩ := h
    refine ⟨_, (pss_cons (ps_set (i := 3) sc_l_compares.nd rfl (by first | exact Or.inl rfl | exact Or.inr rfl) (pe_meth (pv 0) T_Ratio.cl M_Ratio_compare G_Ratio_compare (hr.mono (by decide)) b_Ratio_compare .nil pass0 (pa_cons (pv 1) pa_nil)))
      (pss_one (ps_ret (pe_and (pe_call G_l_int (hr.mono (by decide)) (by rfl) m_l_int k_l_int b_l_int .nil pass0 (pa_cons (pv 3) pa_nil)) (pe_one (pe_cmpR op_eq (pv 3) (pv 2) (nomark _))))))), ?_⟩
    rw [show L2.start ["x", "y", "due", "actual"] [.ref p, .ref q, .int due] = [some (.ref p), some (.ref q), some (.int due), none] from rfl]
    obtain ⟨dp, hp'⟩ := id hp
    walk_at "rd"
    refine ⟨p, q, a, b, c, d, rfl, hp, hq, sa, sb, sc, sd, ?_⟩
    walk_at "rd"
    refine ⟨_, rfl, ?_⟩
    walk_at "rd"
    rw [← hd, decide_eq_true rfl]
    exact k

theorem ok_l_order {f : Addr} {fd : FuncData} (F : L2.Fun K "_law_order" "_law_order" s_l_order f fd)
    {C_BadRatio : Addr} (T_BadRatio : S_BadRatio K mg C_BadRatio)
    {C_Ratio : Addr} (T_Ratio : S_Ratio K mg C_Ratio)
    (z_int : mg "int" = none)
    {f_l_compares : Addr} {fd_l_compares : FuncData} (G_l_compares : FnOk P w K mg base CX0 2 f_l_compares fd_l_compares ["x", "y", "due"] (sp_l_compares C_Ratio)) (m_l_compares : mg "_law_compares" = some (.ref f_l_compares)) (k_l_compares : PySem.W.keepIn K (.ref f_l_compares) = true) (b_l_compares : Binds K fd_l_compares ["x", "y", "due"] [])
    {f_l_equals : Addr} {fd_l_equals : FuncData} (G_l_equals : FnOk P w K mg base CX0 2 f_l_equals fd_l_equals ["x", "y", "due"] (sp_l_equals C_Ratio)) (m_l_equals : mg "_law_equals" = some (.ref f_l_equals)) (k_l_equals : PySem.W.keepIn K (.ref f_l_equals) = true) (b_l_equals : Binds K fd_l_equals ["x", "y", "due"] [])
    {f_Ratio_init : Addr} {fd_Ratio_init : FuncData} (G_Ratio_init : FnOk P w K mg base (L2.CX P w) 1 f_Ratio_init fd_Ratio_init ["self", "top", "bottom"] (sp_Ratio_init C_Ratio C_BadRatio)) (b_Ratio_init : Binds K fd_Ratio_init ["self", "top", "bottom"] []) (I_Ratio : Mk K C_Ratio f_Ratio_init) :
    FnOk P w K mg base CX0 3 f fd ["x", "y", "one", "other"] (sp_l_order K C_Ratio) := by
  refine F.ok sc_l_order (fun vs H Q E h => ?_) (fun cdv A outer s H vs Q E hr h => ?_)
  · obtain ⟨p, q, l, m, a, b, c, d, o0, o1, p0, p1, rfl, _⟩ := h
    rfl
  · obtain ⟨p, q, l, m, a, b, c, d, o0, o1, p0, p1, rfl, hx, hy, gx, gy, hl, hm, ho1, hp1, e1, e2, sa, sb, sc, sd, so0, so1, sp0, sp1, k⟩ := h
    refine ⟨_, (pss_cons (ps_set (i := 4) sc_l_order.nd rfl (by first | exact Or.inl rfl | exact Or.inr rfl) (pe_op op_sub (pe_op op_mulW (pe_ix ix_list (pv 2) pe_int (fun _ _ => rfl)) (pe_ix ix_list (pv 3) pe_int (fun _ _ => rfl))) (pe_op op_mulW (pe_ix ix_list (pv 3) pe_int (fun _ _ => rfl)) (pe_ix ix_list (pv 2) pe_int (fun _ _ => rfl)))))
      (C8.pss_cut (ps_if (pt_cmpR op_lt (pe_op op_mulW (pe_ix ix_list (pv 2) pe_int (fun _ _ => rfl)) (pe_ix ix_list (pv 3) pe_int (fun _ _ => rfl))) pe_int (nomark _))
      (pss_one (ps_set (i := 4) sc_l_order.nd rfl (by first | exact Or.inl rfl | exact Or.inr rfl) (pe_un un_neg (pv 4))))
      pss_nil)
      (pss_cons (ps_set (i := 5) sc_l_order.nd rfl (by first | exact Or.inl rfl | exact Or.inr rfl) (pe_op op_sub (pe_callTy OW.c_int1 (by rfl) z_int (by decide +kernel) (pa_cons (pe_cmpR op_gt (pv 4) pe_int (nomark _)) pa_nil)) (pe_callTy OW.c_int1 (by rfl) z_int (by decide +kernel) (pa_cons (pe_cmpR op_lt (pv 4) pe_int (nomark _)) pa_nil))))
      (pss_cons (ps_if (PW.pt (pw_or (pt_not (pt_val (pe_call G_l_compares (hr.mono (by decide)) (by rfl) m_l_compares k_l_compares b_l_compares .nil pass0 (pa_cons (pv 0) (pa_cons (pv 1) (pa_cons (pv 5) pa_nil)))))) (pw_or1 (pt_not (pt_val (pe_call G_l_compares (hr.mono (by decide)) (by rfl) m_l_compares k_l_compares b_l_compares .nil pass0 (pa_cons (pv 1) (pa_cons (pv 0) (pa_cons (pe_un un_neg (pv 5)) pa_nil)))))))))
      (pss_one (ps_ret pe_bl))
      pss_nil)
      (pss_cons (ps_if (PW.pt (pw_or (pt_not (pt_val (pe_call G_l_equals (hr.mono (by decide)) (by rfl) m_l_equals k_l_equals b_l_equals .nil pass0 (pa_cons (pv 0) (pa_cons (pv 1) (pa_cons (pe_cmpR op_eq (pv 5) pe_int (nomark _)) pa_nil)))))) (pw_or1 (pt_not (pt_val (pe_call G_l_equals (hr.mono (by decide)) (by rfl) m_l_equals k_l_equals b_l_equals .nil pass0 (pa_cons (pv 1) (pa_cons (pv 0) (pa_cons (pe_cmpR op_eq (pv 5) pe_int (nomark _)) pa_nil)))))))))
      (pss_one (ps_ret pe_bl))
      pss_nil)
      (pss_cons (ps_set (i := 6) sc_l_order.nd rfl (by first | exact Or.inl rfl | exact Or.inr rfl) (pe_make I_Ratio G_Ratio_init (hr.mono (by decide)) (by rfl) T_Ratio.mg b_Ratio_init .nil passL (pa_cons (pe_ix ix_list (pv 2) pe_int (fun _ _ => rfl)) (pa_cons (pe_ix ix_list (pv 2) pe_int (fun _ _ => rfl)) pa_nil))))
      (pss_one (ps_ret (pe_and (pe_call G_l_compares (hr.mono (by decide)) (by rfl) m_l_compares k_l_compares b_l_compares .nil pass0 (pa_cons (pv 0) (pa_cons (pv 6) (pa_cons pe_int pa_nil)))) (pe_and (pe_call G_l_compares (hr.mono (by decide)) (by rfl) m_l_compares k_l_compares b_l_compares .nil pass0 (pa_cons (pv 6) (pa_cons (pv 0) (pa_cons pe_int pa_nil)))) (pe_one (pe_call G_l_equals (hr.mono (by decide)) (by rfl) m_l_equals k_l_equals b_l_equals .nil pass0 (pa_cons (pv 6) (pa_cons (pv 0) (pa_cons pe_bl pa_nil))))))))))))))), ?_⟩
    rw [show L2.start ["x", "y", "one", "other", "gap", "due", "again"] [.ref p, .ref q, .ref l, .ref m] = [some (.ref p), some (.ref q), some (.ref l), some (.ref m), none, none, none] from rfl]
    have sa6 := sz sa (show 300 ≤ 700 by decide)
    have sb6 := sz sb (show 300 ≤ 700 by decide)
    have sc6 := sz sc (show 300 ≤ 700 by decide)
    have sd6 := sz sd (show 300 ≤ 700 by decide)
    have w1 := wide_lt so1 sp1
    have w2 := wide_lt so0 sp1
    have w3 := wide_lt sp0 so1
    have w4 := sz_add w2 w3
    have w5 := sz_sub w2 w3
    have w6 := sz_sub w3 w2
    have wad := wide_lt sa sd
    have wcb := wide_lt sc sb
    have wbd := wide_lt sb sd
    have hu : o1 * p1 ≠ 0 := Int.mul_ne_zero ho1 hp1
    walk_at "rd"
    refine ⟨fun σ' H' => ∃ g : Int, σ' = [some (.ref p), some (.ref q), some (.ref l), some (.ref m), some (.int g), none, none] ∧ H' = H ∧ g = (if o1 * p1 < 0 then -(o0 * p1 - p0 * o1) else o0 * p1 - p0 * o1), ?_, ?_⟩
    · walk_at "rd"
      walk_at "sp"
      · rename_i h
        walk_at "rd"
        exact ⟨_, rfl, rfl, by rw [if_pos h]⟩
      · rename_i h
        walk_at "rd"
        exact ⟨_, rfl, rfl, by rw [if_neg h]⟩
    · rintro σ' H1 ⟨g, rfl, rfl, hg⟩
      obtain ⟨m1, m2, m3⟩ := sg_gap gx.pos gy.pos ho1 hp1 e1 e2 hg
      walk_at "rd"
      simp only [decide_eq_true_eq]
      generalize (if 0 < g then (1 : Int) else 0) - (if g < 0 then 1 else 0) = due at *
      refine call_cmp hx hy sa6 sb6 sc6 sd6 m1 ?_
      walk_at "rd"
      refine call_cmp hy hx sc6 sd6 sa6 sb6 m2 ?_
      walk_at "rd"
      refine call_equ hx hy gx gy (decide_eq_decide.mpr m3) ?_
      walk_at "rd"
      refine call_equ hy hx gy gx (decide_eq_decide.mpr (m3.trans ⟨fun z => z.symm, fun z => z.symm⟩)) ?_
      walk_at "rd"
      obtain ⟨g3, _, l1, l2⟩ := nrm_spec (t := o0) ho1
      have c3 := cross_nrm (T := o0) (over := a) (under := b) ho1 e1.symm
      refine mk_ratio ho1 (sz so1 (by decide)) (fun r H2 hr s2 hR => ?_)
      have hx2 := hx.keep s2
      generalize (nrm o0 o1).1 = T at *
      generalize (nrm o0 o1).2 = B at *
      obtain ⟨t1, t2⟩ := good_eq gx g3 c3.symm
      subst t1 t2
      walk_at "rd"
      have z : sg (a * b) (a * b) = 0 := by unfold sg; simp
      refine call_cmp hx2 hR sa6 sb6 sa6 sb6 z ?_
      walk_at "rd"
      refine call_cmp hR hx2 sa6 sb6 sa6 sb6 z ?_
      walk_at "rd"
      exact call_equ hR hx2 gx gx (by rw [decide_eq_true rfl]) (k _ s2)

theorem ok_l_refuses {f : Addr} {fd : FuncData} (F : L2.Fun K "_law_refuses" "_law_refuses" s_l_refuses f fd)
    {C_BadNumber : Addr} (T_BadNumber : S_BadNumber K mg C_BadNumber)
    {C_BadRatio : Addr} (T_BadRatio : S_BadRatio K mg C_BadRatio)
    {C_DampError : Addr} (T_DampError : S_DampError K mg C_DampError)
    {C_Ratio : Addr} (T_Ratio : S_Ratio K mg C_Ratio)
    {C_TooLarge : Addr} (T_TooLarge : S_TooLarge K mg C_TooLarge)
    (z_ValueError : mg "ValueError" = none)
    (z_isinstance : mg "isinstance" = none)
    (kit_BadRatio_BadNumber : PySem.W.kitOne K (.ref C_BadRatio) (.ref C_BadNumber) = some false)
    (kit_BadRatio_DampError : PySem.W.kitOne K (.ref C_BadRatio) (.ref C_DampError) = some true)
    (kit_BadRatio_TooLarge : PySem.W.kitOne K (.ref C_BadRatio) (.ref C_TooLarge) = some false)
    (kit_BadRatio_ValueError : PySem.W.kitOne K (.ref C_BadRatio) (.type "ValueError") = some true)
    {f_Ratio_init : Addr} {fd_Ratio_init : FuncData} (G_Ratio_init : FnOk P w K mg base (L2.CX P w) 1 f_Ratio_init fd_Ratio_init ["self", "top", "bottom"] (sp_Ratio_init C_Ratio C_BadRatio)) (b_Ratio_init : Binds K fd_Ratio_init ["self", "top", "bottom"] []) (I_Ratio : Mk K C_Ratio f_Ratio_init) :
    FnOk P w K mg base CX0 3 f fd ["over"] (sp_l_refuses) := by
  refine F.ok sc_l_refuses (fun vs H Q E h => ?_) (fun cdv A outer s H vs Q E hr h => ?_)
  · obtain ⟨o, rfl, _⟩ := h
    rfl
  · obtain ⟨o, rfl, q⟩ := h
    refine ⟨_, (pss_cons (ps_set (i := 1) sc_l_refuses.nd rfl (by first | exact Or.inl rfl | exact Or.inr rfl) pe_bl)
      (pss_cons (ps_set (i := 2) sc_l_refuses.nd rfl (by first | exact Or.inl rfl | exact Or.inr rfl) pe_bl)
      (pss_cons (ps_try_as (i := 3) rfl rfl sc_l_refuses.nd rfl rfl ⟨rfl, by decide, (.inl T_BadRatio.mg)⟩ takes0
      (fun W pn xe tk _ => (pss_one (ps_expr (OW.pe_makeS I_Ratio G_Ratio_init (hr.mono (by decide)) (by rfl) T_Ratio.mg b_Ratio_init .nil (fun σ => passAt tk σ) (pa_cons (pv 0) (pa_cons pe_int pa_nil))))))
      (fun a oe cls d pn hz hf => (pss_cons (ps_set (i := 1) sc_l_refuses.nd rfl (by first | exact Or.inl rfl | exact Or.inr rfl) pe_bl)
      (pss_cons (ps_set (i := 2) sc_l_refuses.nd rfl (by first | exact Or.inl rfl | exact Or.inr rfl) (pe_and (pe_callB (OW.c_isEE hz hf) (by rfl) z_isinstance (by decide +kernel) (pa_cons (pv 3) (pa_cons (C8.pe_gc (v := .ref C_DampError) (by rfl) ⟨_, T_DampError.mg, rfl⟩) pa_nil))) (pe_one (pe_callB (OW.c_isEE hz hf) (by rfl) z_isinstance (by decide +kernel) (pa_cons (pv 3) (pa_cons (pe_bltn (v := .ty "ValueError") (by rfl) z_ValueError (by decide +kernel) rfl) pa_nil))))))
      (pss_one (ps_set (i := 2) sc_l_refuses.nd rfl (by first | exact Or.inl rfl | exact Or.inr rfl) (pe_and (pv 2) (pe_and (pe_not (pe_callB (OW.c_isEE hz hf) (by rfl) z_isinstance (by decide +kernel) (pa_cons (pv 3) (pa_cons (C8.pe_gc (v := .ref C_TooLarge) (by rfl) ⟨_, T_TooLarge.mg, rfl⟩) pa_nil)))) (pe_one (pe_not (pe_callB (OW.c_isEE hz hf) (by rfl) z_isinstance (by decide +kernel) (pa_cons (pv 3) (pa_cons (C8.pe_gc (v := .ref C_BadNumber) (by rfl) ⟨_, T_BadNumber.mg, rfl⟩) pa_nil)))))))))))))
      (pss_one (ps_ret (pe_and (pv 1) (pe_one (pv 2)))))))), ?_⟩
    rw [show L2.start ["over", "refused", "kin", "e"] [.int o] = [some (.int o), none, none, none] from rfl]
    -- kit_BadRatio_DampError kit_BadRatio_ValueError kit_BadRatio_TooLarge kit_BadRatio_BadNumber
    walk_at "rd"
    intro x dx hx hdx hne
    refine ⟨x, dx, o, 0, rfl, upd_same, by decide, fun _ => ?_, fun e => absurd rfl e⟩
    have s1 : Same H (upd (upd H dx (.own x)) x (.ins C_Ratio dx [])) := same_new (same_upd hdx) hx
    refine ⟨true, T_BadRatio.te, fun _ a ha => ?_, fun e => Bool.noConfusion e⟩
    walk_at "rd"
    exact q _ s1

theorem ok_l_law {f : Addr} {fd : FuncData} (F : L2.Fun K "law" "law" s_l_law f fd)
    {C_BadRatio : Addr} (T_BadRatio : S_BadRatio K mg C_BadRatio)
    {C_Ratio : Addr} (T_Ratio : S_Ratio K mg C_Ratio)
    (z_range : mg "range" = none)
    {f_l_alone : Addr} {fd_l_alone : FuncData} (G_l_alone : FnOk P w K mg base CX0 4 f_l_alone fd_l_alone ["fraction", "pair"] (sp_l_alone K C_Ratio)) (m_l_alone : mg "_law_alone" = some (.ref f_l_alone)) (k_l_alone : PySem.W.keepIn K (.ref f_l_alone) = true) (b_l_alone : Binds K fd_l_alone ["fraction", "pair"] [])
    {f_l_cell : Addr} {fd_l_cell : FuncData} (G_l_cell : FnOk P w K mg base CX0 1 f_l_cell fd_l_cell ["script", "k"] (sp_l_cell K)) (m_l_cell : mg "_law_cell" = some (.ref f_l_cell)) (k_l_cell : PySem.W.keepIn K (.ref f_l_cell) = true) (b_l_cell : Binds K fd_l_cell ["script", "k"] [])
    {f_l_equals : Addr} {fd_l_equals : FuncData} (G_l_equals : FnOk P w K mg base CX0 2 f_l_equals fd_l_equals ["x", "y", "due"] (sp_l_equals C_Ratio)) (m_l_equals : mg "_law_equals" = some (.ref f_l_equals)) (k_l_equals : PySem.W.keepIn K (.ref f_l_equals) = true) (b_l_equals : Binds K fd_l_equals ["x", "y", "due"] [])
    {f_l_holds : Addr} {fd_l_holds : FuncData} (G_l_holds : FnOk P w K mg base CX0 2 f_l_holds fd_l_holds ["fraction", "over", "under"] (sp_l_holds C_Ratio)) (m_l_holds : mg "_law_holds" = some (.ref f_l_holds)) (k_l_holds : PySem.W.keepIn K (.ref f_l_holds) = true) (b_l_holds : Binds K fd_l_holds ["fraction", "over", "under"] [])
    {f_l_nearer : Addr} {fd_l_nearer : FuncData} (G_l_nearer : FnOk P w K mg base CX0 1 f_l_nearer fd_l_nearer ["pair"] sp_l_nearer) (m_l_nearer : mg "_law_nearer" = some (.ref f_l_nearer)) (k_l_nearer : PySem.W.keepIn K (.ref f_l_nearer) = true) (b_l_nearer : Binds K fd_l_nearer ["pair"] [])
    {f_l_order : Addr} {fd_l_order : FuncData} (G_l_order : FnOk P w K mg base CX0 3 f_l_order fd_l_order ["x", "y", "one", "other"] (sp_l_order K C_Ratio)) (m_l_order : mg "_law_order" = some (.ref f_l_order)) (k_l_order : PySem.W.keepIn K (.ref f_l_order) = true) (b_l_order : Binds K fd_l_order ["x", "y", "one", "other"] [])
    {f_l_passed : Addr} {fd_l_passed : FuncData} (G_l_passed : FnOk P w K mg base CX0 3 f_l_passed fd_l_passed ["pool", "terms"] (sp_l_passed)) (m_l_passed : mg "_law_passed" = some (.ref f_l_passed)) (k_l_passed : PySem.W.keepIn K (.ref f_l_passed) = true) (b_l_passed : Binds K fd_l_passed ["pool", "terms"] [])
    {f_l_pool : Addr} {fd_l_pool : FuncData} (G_l_pool : FnOk P w K mg base CX0 1 f_l_pool fd_l_pool ["cell"] sp_l_pool) (m_l_pool : mg "_law_pool" = some (.ref f_l_pool)) (k_l_pool : PySem.W.keepIn K (.ref f_l_pool) = true) (b_l_pool : Binds K fd_l_pool ["cell"] [])
    {f_l_refuses : Addr} {fd_l_refuses : FuncData} (G_l_refuses : FnOk P w K mg base CX0 3 f_l_refuses fd_l_refuses ["over"] (sp_l_refuses)) (m_l_refuses : mg "_law_refuses" = some (.ref f_l_refuses)) (k_l_refuses : PySem.W.keepIn K (.ref f_l_refuses) = true) (b_l_refuses : Binds K fd_l_refuses ["over"] [])
    {f_l_sums : Addr} {fd_l_sums : FuncData} (G_l_sums : FnOk P w K mg base CX0 4 f_l_sums fd_l_sums ["x", "y", "one", "other"] (sp_l_sums K C_Ratio)) (m_l_sums : mg "_law_sums" = some (.ref f_l_sums)) (k_l_sums : PySem.W.keepIn K (.ref f_l_sums) = true) (b_l_sums : Binds K fd_l_sums ["x", "y", "one", "other"] [])
    {f_l_take : Addr} {fd_l_take : FuncData} (G_l_take : FnOk P w K mg base CX0 1 f_l_take fd_l_take ["pool", "size"] sp_l_take) (m_l_take : mg "_law_take" = some (.ref f_l_take)) (k_l_take : PySem.W.keepIn K (.ref f_l_take) = true) (b_l_take : Binds K fd_l_take ["pool", "size"] [])
    {f_l_terms : Addr} {fd_l_terms : FuncData} (G_l_terms : FnOk P w K mg base CX0 3 f_l_terms fd_l_terms ["pool"] (sp_l_terms)) (m_l_terms : mg "_law_terms" = some (.ref f_l_terms)) (k_l_terms : PySem.W.keepIn K (.ref f_l_terms) = true) (b_l_terms : Binds K fd_l_terms ["pool"] [])
    {f_Ratio_add : Addr} {fd_Ratio_add : FuncData} (G_Ratio_add : FnOk P w K mg base CX0 3 f_Ratio_add fd_Ratio_add ["self", "other"] (sp_Ratio_add C_Ratio)) (b_Ratio_add : Binds K fd_Ratio_add ["self", "other"] []) (M_Ratio_add : Meth K C_Ratio "__add__" f_Ratio_add)
    {f_Ratio_init : Addr} {fd_Ratio_init : FuncData} (G_Ratio_init : FnOk P w K mg base (L2.CX P w) 1 f_Ratio_init fd_Ratio_init ["self", "top", "bottom"] (sp_Ratio_init C_Ratio C_BadRatio)) (b_Ratio_init : Binds K fd_Ratio_init ["self", "top", "bottom"] []) (I_Ratio : Mk K C_Ratio f_Ratio_init) {ds_Ratio_init : List Value} (bd_Ratio_init : Binds K fd_Ratio_init ["self", "top", "bottom"] ds_Ratio_init) (d_Ratio_init : Vals [.int 1] ds_Ratio_init) (bk_Ratio_init : KBn K fd_Ratio_init ["self", "top", "bottom"] 2 ["bottom"] (fun us zs => us ++ zs) (fun us zs => us ++ zs))
    {f_Ratio_mul : Addr} {fd_Ratio_mul : FuncData} (G_Ratio_mul : FnOk P w K mg base CX0 3 f_Ratio_mul fd_Ratio_mul ["self", "other"] (sp_Ratio_mul C_Ratio)) (b_Ratio_mul : Binds K fd_Ratio_mul ["self", "other"] []) (M_Ratio_mul : Meth K C_Ratio "__mul__" f_Ratio_mul) :
    FnOk P w K mg base CX0 5 f fd ["script"] (sp_l_law K) := by
  refine F.ok sc_l_law (fun vs H Q E h => ?_) (fun cdv A outer s H vs Q E hr h => ?_)
  · obtain ⟨a, ns, rfl, _⟩ := h
    rfl
  · obtain ⟨a, ns, rfl, hS, hlen, k⟩ := h
    refine ⟨_, (pss_cons (ps_setLc (i := 1) (own := [("k", 14)]) (by rfl) sc_l_law.nd rfl rfl (sw_true rfl rfl rfl (by decide +kernel)) (pi_range1 (by rfl) z_range (pa_cons pe_int pa_nil)) (blkOk_by (N := N_l_law) (sc := defScope s_l_law) (by decide +kernel)) (fun _ _ _ _ _ => (pg_name (i := 14) sc_l_law.nd rfl (by first | exact Or.inl rfl | exact Or.inr rfl))) (fun _ _ _ _ _ => pts_nil) (fun _ _ _ _ _ => (pe_call G_l_pool (hr.mono (by decide)) (by rfl) m_l_pool k_l_pool b_l_pool .nil pass0 (pa_cons (pe_call G_l_cell (hr.mono (by decide)) (by rfl) m_l_cell k_l_cell b_l_cell .nil pass0 (pa_cons (pv 0) (pa_cons (pv 14) pa_nil))) pa_nil))))
      (pss_cons (ps_set (i := 2) sc_l_law.nd rfl (by first | exact Or.inl rfl | exact Or.inr rfl) (pe_call G_l_terms (hr.mono (by decide)) (by rfl) m_l_terms k_l_terms b_l_terms .nil pass0 (pa_cons (pe_ix ix_list (pv 1) pe_int (fun _ _ => rfl)) pa_nil)))
      (pss_cons (ps_set (i := 3) sc_l_law.nd rfl (by first | exact Or.inl rfl | exact Or.inr rfl) (pe_call G_l_passed (hr.mono (by decide)) (by rfl) m_l_passed k_l_passed b_l_passed .nil pass0 (pa_cons (pe_ix ix_list (pv 1) pe_int (fun _ _ => rfl)) (pa_cons (pv 2) pa_nil))))
      (pss_cons (ps_set (i := 4) sc_l_law.nd rfl (by first | exact Or.inl rfl | exact Or.inr rfl) (pe_call G_l_take (hr.mono (by decide)) (by rfl) m_l_take k_l_take b_l_take .nil pass0 (pa_cons (pe_ix ix_list (pv 1) pe_int (fun _ _ => rfl)) (pa_cons pe_int pa_nil))))
      (C8.pss_cut (ps_if (pt_cmpR op_gt (pv 4) pe_int (nomark _))
      (pss_one (ps_set (i := 2) sc_l_law.nd rfl (by first | exact Or.inl rfl | exact Or.inr rfl) (pe_call G_l_terms (hr.mono (by decide)) (by rfl) m_l_terms k_l_terms b_l_terms .nil pass0 (pa_cons (pe_ix ix_list (pv 1) pe_int (fun _ _ => rfl)) pa_nil))))
      pss_nil)
      (pss_cons (ps_set (i := 5) sc_l_law.nd rfl (by first | exact Or.inl rfl | exact Or.inr rfl) (pe_call G_l_passed (hr.mono (by decide)) (by rfl) m_l_passed k_l_passed b_l_passed .nil pass0 (pa_cons (pe_ix ix_list (pv 1) pe_int (fun _ _ => rfl)) (pa_cons (pv 2) pa_nil))))
      (C8.pss_cut (ps_if (pt_cmpR op_eq (pv 4) pe_int (nomark _))
      (pss_one (ps_set (i := 5) sc_l_law.nd rfl (by first | exact Or.inl rfl | exact Or.inr rfl) (pe_call G_l_nearer (hr.mono (by decide)) (by rfl) m_l_nearer k_l_nearer b_l_nearer .nil pass0 (pa_cons (pv 5) pa_nil))))
      pss_nil)
      (pss_cons (ps_set (i := 6) sc_l_law.nd rfl (by first | exact Or.inl rfl | exact Or.inr rfl) (pe_call G_l_passed (hr.mono (by decide)) (by rfl) m_l_passed k_l_passed b_l_passed .nil pass0 (pa_cons (pe_ix ix_list (pv 1) pe_int (fun _ _ => rfl)) (pa_cons (pe_call G_l_terms (hr.mono (by decide)) (by rfl) m_l_terms k_l_terms b_l_terms .nil pass0 (pa_cons (pe_ix ix_list (pv 1) pe_int (fun _ _ => rfl)) pa_nil)) pa_nil))))
      (pss_cons (ps_if (PW.pt (pw_or (pt_not (pt_val (pe_call G_l_refuses (hr.mono (by decide)) (by rfl) m_l_refuses k_l_refuses b_l_refuses .nil pass0 (pa_cons (pe_ix ix_list (pv 3) pe_int (fun _ _ => rfl)) pa_nil)))) (pw_or (pt_not (pt_val (pe_call G_l_refuses (hr.mono (by decide)) (by rfl) m_l_refuses k_l_refuses b_l_refuses .nil pass0 (pa_cons pe_int pa_nil)))) (pw_or1 (pt_not (pt_val (pe_call G_l_refuses (hr.mono (by decide)) (by rfl) m_l_refuses k_l_refuses b_l_refuses .nil pass0 (pa_cons (pe_ix ix_list (pv 5) pe_int (fun _ _ => rfl)) pa_nil))))))))
      (pss_one (ps_ret pe_bl))
      pss_nil)
      (pss_cons (ps_set (i := 7) sc_l_law.nd rfl (by first | exact Or.inl rfl | exact Or.inr rfl) (pe_make I_Ratio G_Ratio_init (hr.mono (by decide)) (by rfl) T_Ratio.mg b_Ratio_init .nil passL (pa_cons (pe_ix ix_list (pv 3) pe_int (fun _ _ => rfl)) (pa_cons (pe_ix ix_list (pv 3) pe_int (fun _ _ => rfl)) pa_nil))))
      (pss_cons (ps_set (i := 8) sc_l_law.nd rfl (by first | exact Or.inl rfl | exact Or.inr rfl) (pe_make I_Ratio G_Ratio_init (hr.mono (by decide)) (by rfl) T_Ratio.mg b_Ratio_init .nil passL (pa_cons (pe_ix ix_list (pv 5) pe_int (fun _ _ => rfl)) (pa_cons (pe_ix ix_list (pv 5) pe_int (fun _ _ => rfl)) pa_nil))))
      (pss_cons (ps_set (i := 9) sc_l_law.nd rfl (by first | exact Or.inl rfl | exact Or.inr rfl) (pe_make I_Ratio G_Ratio_init (hr.mono (by decide)) (by rfl) T_Ratio.mg b_Ratio_init .nil passL (pa_cons (pe_ix ix_list (pv 6) pe_int (fun _ _ => rfl)) (pa_cons (pe_ix ix_list (pv 6) pe_int (fun _ _ => rfl)) pa_nil))))
      (pss_cons (ps_if (PW.pt (pw_or (pt_not (pt_val (pe_call G_l_alone (hr.mono (by decide)) (by rfl) m_l_alone k_l_alone b_l_alone .nil pass0 (pa_cons (pv 7) (pa_cons (pv 3) pa_nil))))) (pw_or (pt_not (pt_val (pe_call G_l_alone (hr.mono (by decide)) (by rfl) m_l_alone k_l_alone b_l_alone .nil pass0 (pa_cons (pv 8) (pa_cons (pv 5) pa_nil))))) (pw_or1 (pt_not (pt_val (pe_call G_l_alone (hr.mono (by decide)) (by rfl) m_l_alone k_l_alone b_l_alone .nil pass0 (pa_cons (pv 9) (pa_cons (pv 6) pa_nil)))))))))
      (pss_one (ps_ret pe_bl))
      pss_nil)
      (pss_cons (ps_if (PW.pt (pw_or (pt_not (pt_val (pe_call G_l_alone (hr.mono (by decide)) (by rfl) m_l_alone k_l_alone b_l_alone .nil pass0 (pa_cons (pe_make I_Ratio G_Ratio_init (hr.mono (by decide)) (by rfl) T_Ratio.mg bd_Ratio_init d_Ratio_init passL (pa_cons (pe_ix ix_list (pv 3) pe_int (fun _ _ => rfl)) pa_nil)) (pa_cons (pe_lst (pa_cons (pe_ix ix_list (pv 3) pe_int (fun _ _ => rfl)) (pa_cons pe_int pa_nil))) pa_nil))))) (pw_or1 (pt_not (pt_val (pe_call G_l_alone (hr.mono (by decide)) (by rfl) m_l_alone k_l_alone b_l_alone .nil pass0 (pa_cons (pe_makeN I_Ratio G_Ratio_init (hr.mono (by decide)) (by rfl) T_Ratio.mg bk_Ratio_init passL (pa_cons (pe_ix ix_list (pv 5) pe_int (fun _ _ => rfl)) pa_nil) (pk_cons (pe_ix ix_list (pv 5) pe_int (fun _ _ => rfl)) pk_nil)) (pa_cons (pv 5) pa_nil))))))))
      (pss_one (ps_ret pe_bl))
      pss_nil)
      (pss_cons (ps_if (PW.pt (pw_or (pt_not (pt_val (pe_call G_l_sums (hr.mono (by decide)) (by rfl) m_l_sums k_l_sums b_l_sums .nil pass0 (pa_cons (pv 7) (pa_cons (pv 8) (pa_cons (pv 3) (pa_cons (pv 5) pa_nil))))))) (pw_or (pt_not (pt_val (pe_call G_l_order (hr.mono (by decide)) (by rfl) m_l_order k_l_order b_l_order .nil pass0 (pa_cons (pv 7) (pa_cons (pv 8) (pa_cons (pv 3) (pa_cons (pv 5) pa_nil))))))) (pw_or1 (pt_not (pt_val (pe_call G_l_order (hr.mono (by decide)) (by rfl) m_l_order k_l_order b_l_order .nil pass0 (pa_cons (pv 8) (pa_cons (pv 9) (pa_cons (pv 5) (pa_cons (pv 6) pa_nil)))))))))))
      (pss_one (ps_ret pe_bl))
      pss_nil)
      (pss_cons (ps_set (i := 10) sc_l_law.nd rfl (by first | exact Or.inl rfl | exact Or.inr rfl) (pe_op (OW.op_bin rfl M_Ratio_mul T_Ratio.sf G_Ratio_mul (hr.mono (by decide)) b_Ratio_mul pass0) (pv 7) (pe_op (OW.op_bin rfl M_Ratio_add T_Ratio.sf G_Ratio_add (hr.mono (by decide)) b_Ratio_add pass0) (pv 8) (pv 9))))
      (pss_cons (ps_set (i := 11) sc_l_law.nd rfl (by first | exact Or.inl rfl | exact Or.inr rfl) (pe_op (OW.op_bin rfl M_Ratio_add T_Ratio.sf G_Ratio_add (hr.mono (by decide)) b_Ratio_add pass0) (pe_op (OW.op_bin rfl M_Ratio_mul T_Ratio.sf G_Ratio_mul (hr.mono (by decide)) b_Ratio_mul pass0) (pv 7) (pv 8)) (pe_op (OW.op_bin rfl M_Ratio_mul T_Ratio.sf G_Ratio_mul (hr.mono (by decide)) b_Ratio_mul pass0) (pv 7) (pv 9))))
      (pss_cons (ps_set (i := 12) sc_l_law.nd rfl (by first | exact Or.inl rfl | exact Or.inr rfl) (pe_op op_mulW (pe_ix ix_list (pv 3) pe_int (fun _ _ => rfl)) (pe_op op_add (pe_op op_mulW (pe_ix ix_list (pv 5) pe_int (fun _ _ => rfl)) (pe_ix ix_list (pv 6) pe_int (fun _ _ => rfl))) (pe_op op_mulW (pe_ix ix_list (pv 6) pe_int (fun _ _ => rfl)) (pe_ix ix_list (pv 5) pe_int (fun _ _ => rfl))))))
      (pss_cons (ps_set (i := 13) sc_l_law.nd rfl (by first | exact Or.inl rfl | exact Or.inr rfl) (pe_op op_mulW (pe_op op_mulW (pe_ix ix_list (pv 3) pe_int (fun _ _ => rfl)) (pe_ix ix_list (pv 5) pe_int (fun _ _ => rfl))) (pe_ix ix_list (pv 6) pe_int (fun _ _ => rfl))))
      (pss_cons (ps_if (PW.pt (pw_or (pt_not (pt_val (pe_call G_l_holds (hr.mono (by decide)) (by rfl) m_l_holds k_l_holds b_l_holds .nil pass0 (pa_cons (pv 10) (pa_cons (pv 12) (pa_cons (pv 13) pa_nil)))))) (pw_or1 (pt_not (pt_val (pe_call G_l_holds (hr.mono (by decide)) (by rfl) m_l_holds k_l_holds b_l_holds .nil pass0 (pa_cons (pv 11) (pa_cons (pv 12) (pa_cons (pv 13) pa_nil)))))))))
      (pss_one (ps_ret pe_bl))
      pss_nil)
      (pss_cons (ps_if (pt_not (pt_val (pe_call G_l_equals (hr.mono (by decide)) (by rfl) m_l_equals k_l_equals b_l_equals .nil pass0 (pa_cons (pv 10) (pa_cons (pv 11) (pa_cons pe_bl pa_nil))))))
      (pss_one (ps_ret pe_bl))
      pss_nil)
      (pss_one (ps_ret (pe_and (pe_call G_l_alone (hr.mono (by decide)) (by rfl) m_l_alone k_l_alone b_l_alone .nil pass0 (pa_cons (pv 7) (pa_cons (pv 3) pa_nil))) (pe_and (pe_call G_l_alone (hr.mono (by decide)) (by rfl) m_l_alone k_l_alone b_l_alone .nil pass0 (pa_cons (pv 8) (pa_cons (pv 5) pa_nil))) (pe_one (pe_call G_l_alone (hr.mono (by decide)) (by rfl) m_l_alone k_l_alone b_l_alone .nil pass0 (pa_cons (pv 9) (pa_cons (pv 6) pa_nil))))))))))))))))))))))))))))), ?_⟩
    rw [show L2.start ["script", "pools", "terms", "one", "way", "two", "three", "x", "y", "z", "whole", "parts", "over", "under", "k"] [.ref a] = [some (.ref a), none, none, none, none, none, none, none, none, none, none, none, none, none, none] from rfl]
    walk_at "rd"
    intro D hD
    refine lc_range (lo := 0) (n := 3) (fun i H' => ∃ as : List Addr, as.length = i ∧ H' D = some (.lst (as.map V.ref)) ∧ (∀ a ∈ as, PoolAt H' a) ∧ as.Nodup ∧ D ∉ as ∧ Chg D H H') ⟨[], rfl, upd_same, fun a h => (List.not_mem_nil h).elim, List.nodup_nil, List.not_mem_nil, Chg.upd⟩ ?_ ?_
    · rintro i H1 hi ⟨as, rfl, hl1, hp1, hn1, hd1, c1⟩
      have hi3 : as.length < 3 := hi
      rw [show wipe [some (V.ref a), none, none, none, none, none, none, none, none, none, none, none, none, none, none] (List.map (fun x => x.snd) [(Str.ofString "k", 14)]) = [some (V.ref a), none, none, none, none, none, none, none, none, none, none, none, none, none, none] from rfl]
      walk_at "rd"
      refine ⟨a, ns, as.length, by simp, c1.seq hD hS, fun x => ?_⟩
      walk_at "rd"
      refine ⟨x, rfl, fun p x0 x1 x2 hp => ?_⟩
      have hpD : D ≠ p := ne_of_none hl1 hp
      have s2 : Same H1 (upd H1 p (.lst [.int x0, .int x1, .int x2])) := same_upd hp
      refine ⟨as.map V.ref, by rw [upd_ne hpD]; exact hl1, by rw [List.length_map]; exact Nat.lt_of_lt_of_le hi3 (by decide), as ++ [p], by simp, by rw [upd_same, List.map_append]; rfl, ?_, ?_, ?_, ?_⟩
      · intro b hb
        rcases List.mem_append.mp hb with hb | hb
        · have hbD : b ≠ D := fun e => hd1 (e ▸ hb)
          obtain ⟨z0, z1, z2, e⟩ := hp1 b hb
          exact ⟨z0, z1, z2, by rw [upd_ne hbD]; exact s2 _ _ e⟩
        · have e : b = p := by simpa using hb
          subst e
          exact ⟨x0, x1, x2, by rw [upd_ne hpD.symm, upd_same]⟩
      · rw [List.nodup_append]
        refine ⟨hn1, by simp, fun b hb c hc e => ?_⟩
        have e2 : c = p := by simpa using hc
        subst e2 e
        exact (hp1 _ hb).ne hp rfl
      · intro hm
        rcases List.mem_append.mp hm with hm | hm
        · exact hd1 hm
        · exact hpD (by simpa using hm)
      · intro b o hb e
        rw [upd_ne hb]
        exact s2 _ _ (c1 _ _ hb e)
    · rintro H1 ⟨as, hl, hl1, hp1, hn1, hd1, c1⟩
      obtain ⟨p0, p1, p2, rfl⟩ : ∃ p0 p1 p2, as = [p0, p1, p2] := by
        match as, hl with
        | [p0, p1, p2], _ => exact ⟨p0, p1, p2, rfl⟩
      have P1 : Pools H1 D p0 p1 p2 := by
        simp only [List.nodup_cons, List.mem_cons, List.not_mem_nil, or_false, not_or] at hn1 hd1
        exact ⟨hl1, hp1 _ (by simp), hp1 _ (by simp), hp1 _ (by simp), hn1.1.1, hn1.1.2, hn1.2.1, hd1.1, hd1.2.1, hd1.2.2⟩
      have lD1 := P1.l
      walk_at "rd"
      refine ⟨p0, rfl, P1.q0, fun o0 u0 b0 t0 H2 so0 hu0 su0 ft0 nt0 ht0 hq c => ?_⟩
      have P2 := P1.c0 c hq
      have t0n1 := P1.q1.ne ft0
      have lD2 := P2.l
      walk_at "rd"
      refine ⟨p0, t0, o0, u0, b0, rfl, P2.q0, ht0, nt0, so0, hu0, su0, fun x0 y0 r0 H3 sx0 hy0 sy0 fr0 nr0 hr0 hq c => ?_⟩
      have P3 := P2.c0 c hq
      have ht0 := c _ _ nt0 ht0
      have r0n1 := P2.q1.ne fr0
      have r0n2 := P2.q2.ne fr0
      have lD3 := P3.l
      walk_at "rd"
      refine ⟨p1, _, rfl, P3.q1, by decide, by decide, fun way H4 w0 w1 hq c => ?_⟩
      have P4 := P3.c1 c hq
      have ht0 := c _ _ t0n1 ht0
      have hr0 := c _ _ r0n1 hr0
      have lD4 := P4.l
      walk_at "rd"
      refine ⟨fun σ' H' => ∃ (t : Addr) (o u : Int) (b : Bool), σ' = [some (.ref a), some (.ref D), some (.ref t), some (.ref r0), some (.int way), none, none, none, none, none, none, none, none, none, none] ∧ Pools H' D p0 p1 p2 ∧ H' r0 = some (.lst [.int x0, .int y0]) ∧ H' t = some (.lst [.int o, .int u, .bl b]) ∧ t ≠ p1 ∧ o.natAbs < 2 ^ 200 ∧ 0 < u ∧ u.natAbs < 2 ^ 200, ?_, ?_⟩
      · walk_at "rd"
        walk_at "sp"
        · walk_at "rd"
          refine ⟨p1, rfl, P4.q1, fun o u b t H5 so hu su ft nt ht hq c => ?_⟩
          walk_at "rd"
          exact ⟨_, _, _, _, rfl, P4.c1 c hq, c _ _ r0n1 hr0, ht, nt, so, hu, su⟩
        · walk_at "rd"
          exact ⟨_, _, _, _, rfl, P4, hr0, ht0, t0n1, so0, hu0, su0⟩
      rintro σ' H5 ⟨t, o, u, b, rfl, P5, hr0, ht, nt, so, hu, su⟩
      have lD5 := P5.l
      walk_at "rd"
      refine ⟨p1, t, o, u, b, rfl, P5.q1, ht, nt, so, hu, su, fun x1 y1 r1 H6 sx1 hy1 sy1 fr1 nr1 hr1 hq c => ?_⟩
      have P6 := P5.c1 c hq
      have hr0 := c _ _ r0n1 hr0
      have r1n2 := P5.q2.ne fr1
      walk_at "rd"
      refine ⟨fun σ' H' => ∃ (r1 : Addr) (x1 : Int), σ' = [some (.ref a), some (.ref D), some (.ref t), some (.ref r0), some (.int way), some (.ref r1), none, none, none, none, none, none, none, none, none] ∧ Pools H' D p0 p1 p2 ∧ H' r0 = some (.lst [.int x0, .int y0]) ∧ H' r1 = some (.lst [.int x1, .int y1]) ∧ r1 ≠ p2 ∧ x1.natAbs < 2 ^ 268, ?_, ?_⟩
      · have sx1' := sz sx1 (show 267 ≤ 268 by decide)
        walk_at "rd"
        walk_at "sp"
        · walk_at "rd"
          refine ⟨r1, x1, y1, rfl, hr1, fun z r hz fr => ?_⟩
          have s7 : Same H6 (upd H6 r (.lst [.int z, .int y1])) := same_upd fr
          have hz2 : z.natAbs < 2 ^ 268 := by omega
          walk_at "rd"
          exact ⟨_, _, rfl, ⟨s7 _ _ P6.l, P6.q0.keep s7, P6.q1.keep s7, P6.q2.keep s7, P6.n01, P6.n02, P6.n12, P6.d0, P6.d1, P6.d2⟩, s7 _ _ hr0, upd_same, P6.q2.ne fr, hz2⟩
        · walk_at "rd"
          exact ⟨_, _, rfl, P6, hr0, hr1, r1n2, sx1'⟩
      clear sx1 hr1 r1n2 nr1 fr1 hr0
      rintro σ' H7 ⟨r1, x1, rfl, P7, hr0, hr1, r1n2, sx1⟩
      have lD7 := P7.l
      walk_at "rd"
      refine ⟨p2, rfl, P7.q2, fun o2 u2 b2 t2 H8 so2 hu2 su2 ft2 nt2 ht2 hq c => ?_⟩
      have P8 := P7.c2 c hq
      have hr0 := c _ _ r0n2 hr0
      have hr1 := c _ _ r1n2 hr1
      walk_at "rd"
      refine ⟨p2, t2, o2, u2, b2, rfl, P8.q2, ht2, nt2, so2, hu2, su2, fun x2 y2 r2 H9 sx2 hy2 sy2 fr2 nr2 hr2 hq c => ?_⟩
      have f0 := c _ _ r0n2 hr0
      have f1 := c _ _ r1n2 hr1
      have f2 := hr2
      clear hr0 hr1 hr2 c hq ht0 ht P1 P2 P3 P4 P5 P6 P7 P8 lD1 lD2 lD3 lD4 lD5 lD7
      have ty0 := sy0
      have ty1 := sy1
      have ty2 := sy2
      replace sx0 := sz sx0 (show 267 ≤ 300 by decide)
      replace sx1 := sz sx1 (show 268 ≤ 300 by decide)
      replace sx2 := sz sx2 (show 267 ≤ 300 by decide)
      replace sy0 := sz sy0 (show 267 ≤ 300 by decide)
      replace sy1 := sz sy1 (show 267 ≤ 300 by decide)
      replace sy2 := sz sy2 (show 267 ≤ 300 by decide)
      walk_at "rd"
      refine ⟨x0, rfl, fun Ha sa => ?_⟩
      walk_at "rd"
      refine ⟨0, rfl, fun Hb sb => ?_⟩
      replace sb := sa.trans sb
      have f1b := sb _ _ f1
      walk_at "rd"
      refine ⟨x1, rfl, fun Hc sc => ?_⟩
      replace sc := sb.trans sc
      have f0c := sc _ _ f0
      walk_at "rd"
      obtain ⟨gX, eX, lX, mX⟩ := nrm_spec (t := x0) hy0
      obtain ⟨gY, eY, lY, mY⟩ := nrm_spec (t := x1) hy1
      obtain ⟨gZ, eZ, lZ, mZ⟩ := nrm_spec (t := x2) hy2
      refine mk_ratio hy0 (sz sy0 (by decide)) (fun q0 Hd fd sd hX => ?_)
      have sd9 := sc.trans sd
      have f1d := sd9 _ _ f1
      walk_at "rd"
      refine mk_ratio hy1 (sz sy1 (by decide)) (fun q1 He fe se hY => ?_)
      replace hX := hX.keep se
      have se9 := sd9.trans se
      have f2e := se9 _ _ f2
      walk_at "rd"
      refine mk_ratio hy2 (sz sy2 (by decide)) (fun q2 Hf ff sf hZ => ?_)
      replace hX := hX.keep sf
      replace hY := hY.keep sf
      have sf9 := se9.trans sf
      generalize (nrm x0 y0).1 = a0 at *
      generalize (nrm x0 y0).2 = b0' at *
      generalize (nrm x1 y1).1 = a1 at *
      generalize (nrm x1 y1).2 = b1 at *
      generalize (nrm x2 y2).1 = a2 at *
      generalize (nrm x2 y2).2 = b2' at *
      have za0 := szle lX sx0
      have zb0 := szle mX sy0
      have za1 := szle lY sx1
      have zb1 := szle mY sy1
      have za2 := szle lZ sx2
      have zb2 := szle mZ sy2
      walk_at "rd"
      refine ⟨q0, r0, a0, b0', x0, y0, rfl, hX, gX, sf9 _ _ f0, hy0, eX, za0, zb0, sx0, sy0, fun Hg sg => ?_⟩
      have sg9 := sf9.trans sg
      walk_at "rd"
      refine ⟨q1, r1, a1, b1, x1, y1, rfl, hY.keep sg, gY, sg9 _ _ f1, hy1, eY, za1, zb1, sx1, sy1, fun Hh sh => ?_⟩
      have sh9 := sg9.trans sh
      replace sg := sg.trans sh
      walk_at "rd"
      refine ⟨q2, r2, a2, b2', x2, y2, rfl, hZ.keep sg, gZ, sh9 _ _ f2, hy2, eZ, za2, zb2, sx2, sy2, fun Hi si => ?_⟩
      have si9 := sh9.trans si
      replace sg := sg.trans si
      have f0i := si9 _ _ f0
      -- Ratio(one[0]), [one[0], 1]
      walk_at "rd"
      obtain ⟨gV, eV, lV, mV⟩ := nrm_spec (t := x0) (show (1 : Int) ≠ 0 by decide)
      refine mk_ratio (show (1 : Int) ≠ 0 by decide) (by decide) (fun q3 Hj fj sj hV => ?_)
      have sj9 := si9.trans sj
      have f0j := sj9 _ _ f0
      walk_at "rd"
      intro l3 hl3
      have s3 : Same Hj (upd Hj l3 (.lst [.int x0, .int 1])) := same_upd hl3
      have v1 : ((1 : Int)).natAbs < 2 ^ 300 := by decide
      refine ⟨q3, l3, _, _, x0, 1, rfl, hV.keep s3, gV, upd_same, by decide, eV, szle lV sx0, szle mV v1, sx0, v1, fun Hk sk => ?_⟩
      have sk9 := (sj9.trans s3).trans sk
      replace sg := ((sg.trans sj).trans s3).trans sk
      have f1k := sk9 _ _ f1
      -- Ratio(two[0], bottom=two[1]), two
      walk_at "rd"
      refine ⟨rfl, rfl, ?_⟩
      refine mk_ratio hy1 (sz sy1 (by decide)) (fun q4 Hl fl sl hW => ?_)
      obtain ⟨gW, eW, lW, mW⟩ := nrm_spec (t := x1) hy1
      have sl9 := sk9.trans sl
      walk_at "rd"
      refine ⟨q4, r1, _, _, x1, y1, rfl, hW, gW, sl9 _ _ f1, hy1, eW, szle lW sx1, szle mW sy1, sx1, sy1, fun Hm sm => ?_⟩
      have sm9 := sl9.trans sm
      replace sg := (sg.trans sl).trans sm
      have iX := hX.keep sg
      have iY := hY.keep sg
      have iZ := hZ.keep sg
      walk_at "rd"
      refine ⟨q0, q1, r0, r1, a0, b0', a1, b1, x0, y0, x1, y1, rfl, iX, iY, gX, gY, sm9 _ _ f0, sm9 _ _ f1, hy0, hy1, eX, eY, za0, zb0, za1, zb1, sx0, sy0, sx1, sy1, fun Hn sn => ?_⟩
      have sn9 := sm9.trans sn
      replace iX := iX.keep sn
      replace iY := iY.keep sn
      replace iZ := iZ.keep sn
      walk_at "rd"
      refine ⟨q0, q1, r0, r1, a0, b0', a1, b1, x0, y0, x1, y1, rfl, iX, iY, gX, gY, sn9 _ _ f0, sn9 _ _ f1, hy0, hy1, eX, eY, za0, zb0, za1, zb1, sx0, sy0, sx1, sy1, fun Ho so => ?_⟩
      have so9 := sn9.trans so
      replace iX := iX.keep so
      replace iY := iY.keep so
      replace iZ := iZ.keep so
      walk_at "rd"
      refine ⟨q1, q2, r1, r2, a1, b1, a2, b2', x1, y1, x2, y2, rfl, iY, iZ, gY, gZ, so9 _ _ f1, so9 _ _ f2, hy1, hy2, eY, eZ, za1, zb1, za2, zb2, sx1, sy1, sx2, sy2, fun Hp sp => ?_⟩
      have sp9 := so9.trans sp
      replace iX := iX.keep sp
      replace iY := iY.keep sp
      replace iZ := iZ.keep sp
      -- whole = x * (y + z)
      have ba := sz za0 (show 300 ≤ 700 by decide)
      have bb := sz zb0 (show 300 ≤ 700 by decide)
      have bc := sz za1 (show 300 ≤ 700 by decide)
      have bd := sz zb1 (show 300 ≤ 700 by decide)
      have be := sz za2 (show 300 ≤ 700 by decide)
      have bf := sz zb2 (show 300 ≤ 700 by decide)
      obtain ⟨dY, jY⟩ := id iY
      obtain ⟨dZ, jZ⟩ := id iZ
      walk_at "rd"
      have w01 := wide_lt bc bf
      have w02 := wide_lt be bd
      refine call_add iY iZ gY gZ bc bd be bf (fun r5 Hq f5 s5 T1 B1 hR1 gR1 cR1 lT1 lB1 => ?_)
      have e5 := cR1 _ _ (x_add1 eY eZ)
      have bT1 : T1.natAbs < 2 ^ 700 := sz (szle lT1 (sz_add (wide_lt za1 zb2) (wide_lt za2 zb1))) (by decide)
      have bB1 : B1.natAbs < 2 ^ 700 := sz (szle lB1 (wide_lt zb1 zb2)) (by decide)
      have tT1 : T1.natAbs < 2 ^ 601 := szle lT1 (sz_add (wide_lt za1 zb2) (wide_lt za2 zb1))
      have tB1 : B1.natAbs < 2 ^ 600 := szle lB1 (wide_lt zb1 zb2)
      have kX := iX.keep s5
      obtain ⟨dX, jX⟩ := id kX
      obtain ⟨dR, jR⟩ := id hR1
      walk_at "rd"
      refine call_mul kX hR1 gX gR1 ba bb bT1 bB1 (fun r6 Hr f6 s6 T2 B2 hR2 gR2 cR2 lT2 lB2 => ?_)
      have e6 := cR2 _ _ (x_whole eX e5)
      -- parts = x * y + x * z
      have s56 := s5.trans s6
      have kX := iX.keep s56
      have kY := iY.keep s56
      have kZ := iZ.keep s56
      obtain ⟨dX, jX⟩ := id kX
      obtain ⟨dY, jY⟩ := id kY
      walk_at "rd"
      refine call_mul kX kY gX gY ba bb bc bd (fun r7 Hs f7 s7 U1 V1 hR7 gR7 cR7 lT7 lB7 => ?_)
      have e7 := cR7 _ _ (x_mul1 eX eY)
      have kX := kX.keep s7
      have kZ := kZ.keep s7
      obtain ⟨dX, jX⟩ := id kX
      obtain ⟨dZ, jZ⟩ := id kZ
      walk_at "rd"
      refine call_mul kX kZ gX gZ ba bb be bf (fun r8 Ht f8 s8 U2 V2 hR8 gR8 cR8 lT8 lB8 => ?_)
      have e8 := cR8 _ _ (x_mul1 eX eZ)
      have kR7 := hR7.keep s8
      obtain ⟨d7, j7⟩ := id kR7
      obtain ⟨d8, j8⟩ := id hR8
      have b7 : U1.natAbs < 2 ^ 600 := szle lT7 (wide_lt za0 za1)
      have b7' : V1.natAbs < 2 ^ 600 := szle lB7 (wide_lt zb0 zb1)
      have b8 : U2.natAbs < 2 ^ 600 := szle lT8 (wide_lt za0 za2)
      have b8' : V2.natAbs < 2 ^ 600 := szle lB8 (wide_lt zb0 zb2)
      walk_at "rd"
      refine call_add kR7 hR8 gR7 gR8 (sz b7 (by decide)) (sz b7' (by decide)) (sz b8 (by decide)) (sz b8' (by decide)) (fun r9 Hu f9 s9 T3 B3 hR9 gR9 cR9 lT9 lB9 => ?_)
      have e9 := cR9 _ _ (x_parts e7 e8)
      have su9 := (((sp9.trans s56).trans s7).trans s8).trans s9
      have f0u := su9 _ _ f0
      have f1u := su9 _ _ f1
      have f2u := su9 _ _ f2
      have hR6 := ((hR2.keep s7).keep s8).keep s9
      -- over, under
      have m1 := wide_lt sx1 sy2
      have m2 := wide_lt sx2 sy1
      have m3 := sz_add m1 m2
      have m4 := wide_lt sx0 m3
      have m5 := wide_lt ty0 ty1
      have m6 := wide_lt m5 ty2
      have hu : y0 * y1 * y2 ≠ 0 := Int.mul_ne_zero (Int.mul_ne_zero hy0 hy1) hy2
      walk_at "rd"
      refine ⟨r6, T2, B2, _, _, rfl, hR6, gR2, e6, hu, sz m6 (by decide), sz (szle lT2 (wide_lt za0 tT1)) (by decide), sz m4 (by decide), ?_⟩
      walk_at "rd"
      refine ⟨r9, T3, B3, _, _, rfl, hR9, gR9, e9, hu, sz m6 (by decide), sz (szle lT9 (sz_add (wide_lt b7 b8') (wide_lt b8 b7'))) (by decide), sz m4 (by decide), ?_⟩
      walk_at "rd"
      refine call_equ hR6 hR9 gR2 gR9 (decide_eq_true (x_same hu e6 e9)).symm ?_
      have sg := (((s56.trans s7).trans s8).trans s9)
      have iX := iX.keep sg
      have iY := iY.keep sg
      have iZ := iZ.keep sg
      walk_at "rd"
      refine ⟨q0, r0, a0, b0', x0, y0, rfl, iX, gX, f0u, hy0, eX, za0, zb0, sx0, sy0, fun Hv sv => ?_⟩
      walk_at "rd"
      refine ⟨q1, r1, a1, b1, x1, y1, rfl, iY.keep sv, gY, sv _ _ f1u, hy1, eY, za1, zb1, sx1, sy1, fun Hw sw => ?_⟩
      walk_at "rd"
      exact ⟨q2, r2, a2, b2', x2, y2, rfl, (iZ.keep sv).keep sw, gZ, sw _ _ (sv _ _ f2u), hy2, eZ, za2, zb2, sx2, sy2, fun Hx _ => k Hx⟩
end
/-! ### what the top has written -/
theorem all_mk {l : PySem.W.OpenLaw} {w : World} {K : PySem.W.Frag} {h : Heap} {mg : Str → Option Value} {fa : Addr} (X : K.In h) (G : h.Ns mainGlobals mg) (hfa : mg "law" = some (.ref fa))
    {C_BadNumber : Addr}
    {C_BadRatio : Addr}
    {C_DampError : Addr}
    {C_Ratio : Addr}
    {C_TooLarge : Addr}
    {f_f_ceil_div : Addr} {od_f_ceil_div an_f_ceil_div : Option Addr} {sl_f_ceil_div : Array (Option Value)} {oc_f_ceil_div kV_f_ceil_div dc_f_ceil_div pm_f_ceil_div cd_f_ceil_div ct_f_ceil_div : Value}
    {f_Ratio_init : Addr} {od_Ratio_init an_Ratio_init : Option Addr} {sl_Ratio_init : Array (Option Value)} {oc_Ratio_init kV_Ratio_init dc_Ratio_init pm_Ratio_init cd_Ratio_init ct_Ratio_init : Value}
    {t_Ratio_init : Addr} {oct_Ratio_init : Value} {odt_Ratio_init : Option Addr} {nt_Ratio_init : Nat} {slt_Ratio_init : Array (Option Value)} {tk0_Ratio_init : Tok}
    {f_Ratio_add : Addr} {od_Ratio_add an_Ratio_add : Option Addr} {sl_Ratio_add : Array (Option Value)} {oc_Ratio_add kV_Ratio_add dc_Ratio_add pm_Ratio_add cd_Ratio_add ct_Ratio_add : Value}
    {f_Ratio_sub : Addr} {od_Ratio_sub an_Ratio_sub : Option Addr} {sl_Ratio_sub : Array (Option Value)} {oc_Ratio_sub kV_Ratio_sub dc_Ratio_sub pm_Ratio_sub cd_Ratio_sub ct_Ratio_sub : Value}
    {f_Ratio_mul : Addr} {od_Ratio_mul an_Ratio_mul : Option Addr} {sl_Ratio_mul : Array (Option Value)} {oc_Ratio_mul kV_Ratio_mul dc_Ratio_mul pm_Ratio_mul cd_Ratio_mul ct_Ratio_mul : Value}
    {f_Ratio_neg : Addr} {od_Ratio_neg an_Ratio_neg : Option Addr} {sl_Ratio_neg : Array (Option Value)} {oc_Ratio_neg kV_Ratio_neg dc_Ratio_neg pm_Ratio_neg cd_Ratio_neg ct_Ratio_neg : Value}
    {f_Ratio_eq : Addr} {od_Ratio_eq an_Ratio_eq : Option Addr} {sl_Ratio_eq : Array (Option Value)} {oc_Ratio_eq kV_Ratio_eq dc_Ratio_eq pm_Ratio_eq cd_Ratio_eq ct_Ratio_eq : Value}
    {f_Ratio_compare : Addr} {od_Ratio_compare an_Ratio_compare : Option Addr} {sl_Ratio_compare : Array (Option Value)} {oc_Ratio_compare kV_Ratio_compare dc_Ratio_compare pm_Ratio_compare cd_Ratio_compare ct_Ratio_compare : Value}
    {f_Ratio_floor : Addr} {od_Ratio_floor an_Ratio_floor : Option Addr} {sl_Ratio_floor : Array (Option Value)} {oc_Ratio_floor kV_Ratio_floor dc_Ratio_floor pm_Ratio_floor cd_Ratio_floor ct_Ratio_floor : Value}
    {f_Ratio_ceiling : Addr} {od_Ratio_ceiling an_Ratio_ceiling : Option Addr} {sl_Ratio_ceiling : Array (Option Value)} {oc_Ratio_ceiling kV_Ratio_ceiling dc_Ratio_ceiling pm_Ratio_ceiling cd_Ratio_ceiling ct_Ratio_ceiling : Value}
    {f_Ratio_text : Addr} {od_Ratio_text an_Ratio_text : Option Addr} {sl_Ratio_text : Array (Option Value)} {oc_Ratio_text kV_Ratio_text dc_Ratio_text pm_Ratio_text cd_Ratio_text ct_Ratio_text : Value}
    {f_l_cell : Addr} {od_l_cell an_l_cell : Option Addr} {sl_l_cell : Array (Option Value)} {oc_l_cell kV_l_cell dc_l_cell pm_l_cell cd_l_cell ct_l_cell : Value}
    {f_l_pool : Addr} {od_l_pool an_l_pool : Option Addr} {sl_l_pool : Array (Option Value)} {oc_l_pool kV_l_pool dc_l_pool pm_l_pool cd_l_pool ct_l_pool : Value}
    {f_l_take : Addr} {od_l_take an_l_take : Option Addr} {sl_l_take : Array (Option Value)} {oc_l_take kV_l_take dc_l_take pm_l_take cd_l_take ct_l_take : Value}
    {f_l_int : Addr} {od_l_int an_l_int : Option Addr} {sl_l_int : Array (Option Value)} {oc_l_int kV_l_int dc_l_int pm_l_int cd_l_int ct_l_int : Value}
    {f_l_number : Addr} {od_l_number an_l_number : Option Addr} {sl_l_number : Array (Option Value)} {oc_l_number kV_l_number dc_l_number pm_l_number cd_l_number ct_l_number : Value}
    {f_l_terms : Addr} {od_l_terms an_l_terms : Option Addr} {sl_l_terms : Array (Option Value)} {oc_l_terms kV_l_terms dc_l_terms pm_l_terms cd_l_terms ct_l_terms : Value}
    {f_l_passed : Addr} {od_l_passed an_l_passed : Option Addr} {sl_l_passed : Array (Option Value)} {oc_l_passed kV_l_passed dc_l_passed pm_l_passed cd_l_passed ct_l_passed : Value}
    {f_l_nearer : Addr} {od_l_nearer an_l_nearer : Option Addr} {sl_l_nearer : Array (Option Value)} {oc_l_nearer kV_l_nearer dc_l_nearer pm_l_nearer cd_l_nearer ct_l_nearer : Value}
    {f_l_coprime : Addr} {od_l_coprime an_l_coprime : Option Addr} {sl_l_coprime : Array (Option Value)} {oc_l_coprime kV_l_coprime dc_l_coprime pm_l_coprime cd_l_coprime ct_l_coprime : Value}
    {f_l_holds : Addr} {od_l_holds an_l_holds : Option Addr} {sl_l_holds : Array (Option Value)} {oc_l_holds kV_l_holds dc_l_holds pm_l_holds cd_l_holds ct_l_holds : Value}
    {f_l_alone : Addr} {od_l_alone an_l_alone : Option Addr} {sl_l_alone : Array (Option Value)} {oc_l_alone kV_l_alone dc_l_alone pm_l_alone cd_l_alone ct_l_alone : Value}
    {f_l_sums : Addr} {od_l_sums an_l_sums : Option Addr} {sl_l_sums : Array (Option Value)} {oc_l_sums kV_l_sums dc_l_sums pm_l_sums cd_l_sums ct_l_sums : Value}
    {f_l_equals : Addr} {od_l_equals an_l_equals : Option Addr} {sl_l_equals : Array (Option Value)} {oc_l_equals kV_l_equals dc_l_equals pm_l_equals cd_l_equals ct_l_equals : Value}
    {f_l_compares : Addr} {od_l_compares an_l_compares : Option Addr} {sl_l_compares : Array (Option Value)} {oc_l_compares kV_l_compares dc_l_compares pm_l_compares cd_l_compares ct_l_compares : Value}
    {f_l_order : Addr} {od_l_order an_l_order : Option Addr} {sl_l_order : Array (Option Value)} {oc_l_order kV_l_order dc_l_order pm_l_order cd_l_order ct_l_order : Value}
    {f_l_refuses : Addr} {od_l_refuses an_l_refuses : Option Addr} {sl_l_refuses : Array (Option Value)} {oc_l_refuses kV_l_refuses dc_l_refuses pm_l_refuses cd_l_refuses ct_l_refuses : Value}
    {f_l_law : Addr} {od_l_law an_l_law : Option Addr} {sl_l_law : Array (Option Value)} {oc_l_law kV_l_law dc_l_law pm_l_law cd_l_law ct_l_law : Value}
    (a_BadNumber : PySem.W.nsIn K mainGlobals "BadNumber" = some (some (.ref C_BadNumber)))
    (c_BadNumber_x : PySem.W.excIn K C_BadNumber [.type "ValueError", .type "Exception", .type "BaseException", .type "object"] "ValueError.__new__" = true)
    (c_BadNumber_kp : PySem.W.keepIn K (.ref C_BadNumber) = true)
    (c_BadNumber_b : PySem.W.subIn K (.ref C_BadNumber) (.type "BaseException") = some true)
    (c_BadNumber_t : PySem.W.typeIn K (.ref C_BadNumber) = some (.type "type"))
    (c_BadNumber_i : PySem.W.isClsIn K C_BadNumber = true)
    (c_BadNumber_s : PySem.W.subIn K (.ref C_BadNumber) (.ref C_BadNumber) = some true)
    (c_BadNumber_hg : PySem.W.findIn K (.ref C_BadNumber) "__getattribute__" = some (some (.builtin "BaseException.__getattribute__")))
    (c_BadNumber_hk : PySem.W.findIn K (.ref C_BadNumber) "__getattr__" = some none)
    (c_BadNumber_hd : PySem.W.hasDictIn K C_BadNumber = true)
    (c_BadNumber_ha : PySem.W.findIn K (.ref C_BadNumber) "__class__" = some (some (.builtin "object.__class__")))
    (c_BadNumber_hn : PySem.W.specialIn K (.builtin "object.__class__") "__get__" = some (some (.builtin "getset_descriptor.__get__")))
    (c_BadNumber_ht : PySem.W.takesIn K (.builtin "object.__class__") = some true)
    (c_BadNumber_hm : PySem.W.mroIn K C_BadNumber (.type "object") = some true)
    (a_BadRatio : PySem.W.nsIn K mainGlobals "BadRatio" = some (some (.ref C_BadRatio)))
    (c_BadRatio_x : PySem.W.excIn K C_BadRatio [.type "ValueError", .type "Exception", .type "BaseException", .type "object"] "ValueError.__new__" = true)
    (c_BadRatio_kp : PySem.W.keepIn K (.ref C_BadRatio) = true)
    (c_BadRatio_b : PySem.W.subIn K (.ref C_BadRatio) (.type "BaseException") = some true)
    (c_BadRatio_t : PySem.W.typeIn K (.ref C_BadRatio) = some (.type "type"))
    (c_BadRatio_i : PySem.W.isClsIn K C_BadRatio = true)
    (c_BadRatio_s : PySem.W.subIn K (.ref C_BadRatio) (.ref C_BadRatio) = some true)
    (c_BadRatio_hg : PySem.W.findIn K (.ref C_BadRatio) "__getattribute__" = some (some (.builtin "BaseException.__getattribute__")))
    (c_BadRatio_hk : PySem.W.findIn K (.ref C_BadRatio) "__getattr__" = some none)
    (c_BadRatio_hd : PySem.W.hasDictIn K C_BadRatio = true)
    (c_BadRatio_ha : PySem.W.findIn K (.ref C_BadRatio) "__class__" = some (some (.builtin "object.__class__")))
    (c_BadRatio_hn : PySem.W.specialIn K (.builtin "object.__class__") "__get__" = some (some (.builtin "getset_descriptor.__get__")))
    (c_BadRatio_ht : PySem.W.takesIn K (.builtin "object.__class__") = some true)
    (c_BadRatio_hm : PySem.W.mroIn K C_BadRatio (.type "object") = some true)
    (a_DampError : PySem.W.nsIn K mainGlobals "DampError" = some (some (.ref C_DampError)))
    (c_DampError_x : PySem.W.excIn K C_DampError [.type "ValueError", .type "Exception", .type "BaseException", .type "object"] "ValueError.__new__" = true)
    (c_DampError_kp : PySem.W.keepIn K (.ref C_DampError) = true)
    (c_DampError_b : PySem.W.subIn K (.ref C_DampError) (.type "BaseException") = some true)
    (c_DampError_t : PySem.W.typeIn K (.ref C_DampError) = some (.type "type"))
    (c_DampError_i : PySem.W.isClsIn K C_DampError = true)
    (c_DampError_s : PySem.W.subIn K (.ref C_DampError) (.ref C_DampError) = some true)
    (c_DampError_hg : PySem.W.findIn K (.ref C_DampError) "__getattribute__" = some (some (.builtin "BaseException.__getattribute__")))
    (c_DampError_hk : PySem.W.findIn K (.ref C_DampError) "__getattr__" = some none)
    (c_DampError_hd : PySem.W.hasDictIn K C_DampError = true)
    (c_DampError_ha : PySem.W.findIn K (.ref C_DampError) "__class__" = some (some (.builtin "object.__class__")))
    (c_DampError_hn : PySem.W.specialIn K (.builtin "object.__class__") "__get__" = some (some (.builtin "getset_descriptor.__get__")))
    (c_DampError_ht : PySem.W.takesIn K (.builtin "object.__class__") = some true)
    (c_DampError_hm : PySem.W.mroIn K C_DampError (.type "object") = some true)
    (a_Ratio : PySem.W.nsIn K mainGlobals "Ratio" = some (some (.ref C_Ratio)))
    (c_Ratio_pg : PySem.W.plainGet K C_Ratio Str.empty = true)
    (c_Ratio_hd : PySem.W.hasDictIn K C_Ratio = true)
    (c_Ratio_po : PySem.W.plainOver K C_Ratio = true)
    (c_Ratio_sa : PySem.W.findIn K (.ref C_Ratio) "__setattr__" = some (some (.builtin "object.__setattr__")))
    (c_Ratio_sf : PySem.W.selfFirst K C_Ratio = true)
    (c_Ratio_nf : PySem.W.notFirst K C_Ratio (.ref C_Ratio) = true)
    (c_Ratio_ha : PySem.W.findIn K (.ref C_Ratio) "__class__" = some (some (.builtin "object.__class__")))
    (c_Ratio_hn : PySem.W.specialIn K (.builtin "object.__class__") "__get__" = some (some (.builtin "getset_descriptor.__get__")))
    (c_Ratio_ht : PySem.W.takesIn K (.builtin "object.__class__") = some true)
    (c_Ratio_hm : PySem.W.mroIn K C_Ratio (.type "object") = some true)
    (c_Ratio_kp : PySem.W.keepIn K (.ref C_Ratio) = true)
    (c_Ratio_mkk : PySem.W.makesIn K C_Ratio = true)
    (c_Ratio_n_top : PySem.W.findIn K (.ref C_Ratio) "top" = some none)
    (c_Ratio_n_bottom : PySem.W.findIn K (.ref C_Ratio) "bottom" = some none)
    (a_TooLarge : PySem.W.nsIn K mainGlobals "TooLarge" = some (some (.ref C_TooLarge)))
    (c_TooLarge_x : PySem.W.excIn K C_TooLarge [.type "ValueError", .type "Exception", .type "BaseException", .type "object"] "ValueError.__new__" = true)
    (c_TooLarge_kp : PySem.W.keepIn K (.ref C_TooLarge) = true)
    (c_TooLarge_b : PySem.W.subIn K (.ref C_TooLarge) (.type "BaseException") = some true)
    (c_TooLarge_t : PySem.W.typeIn K (.ref C_TooLarge) = some (.type "type"))
    (c_TooLarge_i : PySem.W.isClsIn K C_TooLarge = true)
    (c_TooLarge_s : PySem.W.subIn K (.ref C_TooLarge) (.ref C_TooLarge) = some true)
    (c_TooLarge_hg : PySem.W.findIn K (.ref C_TooLarge) "__getattribute__" = some (some (.builtin "BaseException.__getattribute__")))
    (c_TooLarge_hk : PySem.W.findIn K (.ref C_TooLarge) "__getattr__" = some none)
    (c_TooLarge_hd : PySem.W.hasDictIn K C_TooLarge = true)
    (c_TooLarge_ha : PySem.W.findIn K (.ref C_TooLarge) "__class__" = some (some (.builtin "object.__class__")))
    (c_TooLarge_hn : PySem.W.specialIn K (.builtin "object.__class__") "__get__" = some (some (.builtin "getset_descriptor.__get__")))
    (c_TooLarge_ht : PySem.W.takesIn K (.builtin "object.__class__") = some true)
    (c_TooLarge_hm : PySem.W.mroIn K C_TooLarge (.type "object") = some true)
    (kit_BadRatio_BadNumber : PySem.W.kitOne K (.ref C_BadRatio) (.ref C_BadNumber) = some false)
    (kit_BadRatio_DampError : PySem.W.kitOne K (.ref C_BadRatio) (.ref C_DampError) = some true)
    (kit_BadRatio_TooLarge : PySem.W.kitOne K (.ref C_BadRatio) (.ref C_TooLarge) = some false)
    (kit_BadRatio_ValueError : PySem.W.kitOne K (.ref C_BadRatio) (.type "ValueError") = some true)
    (kit_bool_bool : PySem.W.kitOne K (.type "bool") (.type "bool") = some true)
    (kit_int_bool : PySem.W.kitOne K (.type "int") (.type "bool") = some false)
    (kit_int_int : PySem.W.kitOne K (.type "int") (.type "int") = some true)
    (kit_str_str : PySem.W.kitOne K (.type "str") (.type "str") = some true)
    (y_ValueError : PySem.W.nsIn K mainGlobals "ValueError" = some none)
    (y_abs : PySem.W.nsIn K mainGlobals "abs" = some none)
    (y_bool : PySem.W.nsIn K mainGlobals "bool" = some none)
    (y_int : PySem.W.nsIn K mainGlobals "int" = some none)
    (y_isinstance : PySem.W.nsIn K mainGlobals "isinstance" = some none)
    (y_len : PySem.W.nsIn K mainGlobals "len" = some none)
    (y_max : PySem.W.nsIn K mainGlobals "max" = some none)
    (y_range : PySem.W.nsIn K mainGlobals "range" = some none)
    (y_str : PySem.W.nsIn K mainGlobals "str" = some none)
    (y_gcd : PySem.W.nsIn K mainGlobals "gcd" = some (some (.builtin "math.gcd")))
    (a_f_ceil_div : PySem.W.nsIn K mainGlobals "ceil_div" = some (some (.ref f_f_ceil_div)))
    (l_f_ceil_div : K.lookup f_f_ceil_div = some ⟨oc_f_ceil_div, od_f_ceil_div, .func (PySem.W.fnOf "ceil_div" "ceil_div" (defArgs s_f_ceil_div) (defBody s_f_ceil_div) (defScope s_f_ceil_div) .none kV_f_ceil_div dc_f_ceil_div pm_f_ceil_div an_f_ceil_div cd_f_ceil_div ct_f_ceil_div), sl_f_ceil_div⟩)
    (e_f_ceil_div : PySem.W.codeIn K cd_f_ceil_div "ceil_div" = true)
    (k_f_ceil_div : PySem.W.keepIn K (.ref f_f_ceil_div) = true)
    (a_Ratio_init : PySem.W.findIn K (.ref C_Ratio) "__init__" = some (some (.ref f_Ratio_init)))
    (j_Ratio_init : PySem.W.isFn K (.ref f_Ratio_init) = true)
    (l_Ratio_init : K.lookup f_Ratio_init = some ⟨oc_Ratio_init, od_Ratio_init, .func (PySem.W.fnOf "__init__" "Ratio.__init__" (defArgs s_Ratio_init) (defBody s_Ratio_init) (defScope s_Ratio_init) (.ref t_Ratio_init) kV_Ratio_init dc_Ratio_init pm_Ratio_init an_Ratio_init cd_Ratio_init ct_Ratio_init), sl_Ratio_init⟩)
    (lt_Ratio_init : K.lookup t_Ratio_init = some ⟨oct_Ratio_init, odt_Ratio_init, .seq #[.int 1 tk0_Ratio_init] nt_Ratio_init, slt_Ratio_init⟩)
    (e_Ratio_init : PySem.W.codeIn K cd_Ratio_init "Ratio.__init__" = true)
    (k_Ratio_init : PySem.W.keepIn K (.ref f_Ratio_init) = true)
    (a_Ratio_add : PySem.W.findIn K (.ref C_Ratio) "__add__" = some (some (.ref f_Ratio_add)))
    (j_Ratio_add : PySem.W.isFn K (.ref f_Ratio_add) = true)
    (l_Ratio_add : K.lookup f_Ratio_add = some ⟨oc_Ratio_add, od_Ratio_add, .func (PySem.W.fnOf "__add__" "Ratio.__add__" (defArgs s_Ratio_add) (defBody s_Ratio_add) (defScope s_Ratio_add) .none kV_Ratio_add dc_Ratio_add pm_Ratio_add an_Ratio_add cd_Ratio_add ct_Ratio_add), sl_Ratio_add⟩)
    (e_Ratio_add : PySem.W.codeIn K cd_Ratio_add "Ratio.__add__" = true)
    (k_Ratio_add : PySem.W.keepIn K (.ref f_Ratio_add) = true)
    (a_Ratio_sub : PySem.W.findIn K (.ref C_Ratio) "__sub__" = some (some (.ref f_Ratio_sub)))
    (j_Ratio_sub : PySem.W.isFn K (.ref f_Ratio_sub) = true)
    (l_Ratio_sub : K.lookup f_Ratio_sub = some ⟨oc_Ratio_sub, od_Ratio_sub, .func (PySem.W.fnOf "__sub__" "Ratio.__sub__" (defArgs s_Ratio_sub) (defBody s_Ratio_sub) (defScope s_Ratio_sub) .none kV_Ratio_sub dc_Ratio_sub pm_Ratio_sub an_Ratio_sub cd_Ratio_sub ct_Ratio_sub), sl_Ratio_sub⟩)
    (e_Ratio_sub : PySem.W.codeIn K cd_Ratio_sub "Ratio.__sub__" = true)
    (k_Ratio_sub : PySem.W.keepIn K (.ref f_Ratio_sub) = true)
    (a_Ratio_mul : PySem.W.findIn K (.ref C_Ratio) "__mul__" = some (some (.ref f_Ratio_mul)))
    (j_Ratio_mul : PySem.W.isFn K (.ref f_Ratio_mul) = true)
    (l_Ratio_mul : K.lookup f_Ratio_mul = some ⟨oc_Ratio_mul, od_Ratio_mul, .func (PySem.W.fnOf "__mul__" "Ratio.__mul__" (defArgs s_Ratio_mul) (defBody s_Ratio_mul) (defScope s_Ratio_mul) .none kV_Ratio_mul dc_Ratio_mul pm_Ratio_mul an_Ratio_mul cd_Ratio_mul ct_Ratio_mul), sl_Ratio_mul⟩)
    (e_Ratio_mul : PySem.W.codeIn K cd_Ratio_mul "Ratio.__mul__" = true)
    (k_Ratio_mul : PySem.W.keepIn K (.ref f_Ratio_mul) = true)
    (a_Ratio_neg : PySem.W.findIn K (.ref C_Ratio) "__neg__" = some (some (.ref f_Ratio_neg)))
    (j_Ratio_neg : PySem.W.isFn K (.ref f_Ratio_neg) = true)
    (l_Ratio_neg : K.lookup f_Ratio_neg = some ⟨oc_Ratio_neg, od_Ratio_neg, .func (PySem.W.fnOf "__neg__" "Ratio.__neg__" (defArgs s_Ratio_neg) (defBody s_Ratio_neg) (defScope s_Ratio_neg) .none kV_Ratio_neg dc_Ratio_neg pm_Ratio_neg an_Ratio_neg cd_Ratio_neg ct_Ratio_neg), sl_Ratio_neg⟩)
    (e_Ratio_neg : PySem.W.codeIn K cd_Ratio_neg "Ratio.__neg__" = true)
    (k_Ratio_neg : PySem.W.keepIn K (.ref f_Ratio_neg) = true)
    (a_Ratio_eq : PySem.W.findIn K (.ref C_Ratio) "__eq__" = some (some (.ref f_Ratio_eq)))
    (j_Ratio_eq : PySem.W.isFn K (.ref f_Ratio_eq) = true)
    (l_Ratio_eq : K.lookup f_Ratio_eq = some ⟨oc_Ratio_eq, od_Ratio_eq, .func (PySem.W.fnOf "__eq__" "Ratio.__eq__" (defArgs s_Ratio_eq) (defBody s_Ratio_eq) (defScope s_Ratio_eq) .none kV_Ratio_eq dc_Ratio_eq pm_Ratio_eq an_Ratio_eq cd_Ratio_eq ct_Ratio_eq), sl_Ratio_eq⟩)
    (e_Ratio_eq : PySem.W.codeIn K cd_Ratio_eq "Ratio.__eq__" = true)
    (k_Ratio_eq : PySem.W.keepIn K (.ref f_Ratio_eq) = true)
    (a_Ratio_compare : PySem.W.findIn K (.ref C_Ratio) "compare" = some (some (.ref f_Ratio_compare)))
    (j_Ratio_compare : PySem.W.isFn K (.ref f_Ratio_compare) = true)
    (l_Ratio_compare : K.lookup f_Ratio_compare = some ⟨oc_Ratio_compare, od_Ratio_compare, .func (PySem.W.fnOf "compare" "Ratio.compare" (defArgs s_Ratio_compare) (defBody s_Ratio_compare) (defScope s_Ratio_compare) .none kV_Ratio_compare dc_Ratio_compare pm_Ratio_compare an_Ratio_compare cd_Ratio_compare ct_Ratio_compare), sl_Ratio_compare⟩)
    (e_Ratio_compare : PySem.W.codeIn K cd_Ratio_compare "Ratio.compare" = true)
    (k_Ratio_compare : PySem.W.keepIn K (.ref f_Ratio_compare) = true)
    (a_Ratio_floor : PySem.W.findIn K (.ref C_Ratio) "floor" = some (some (.ref f_Ratio_floor)))
    (j_Ratio_floor : PySem.W.isFn K (.ref f_Ratio_floor) = true)
    (l_Ratio_floor : K.lookup f_Ratio_floor = some ⟨oc_Ratio_floor, od_Ratio_floor, .func (PySem.W.fnOf "floor" "Ratio.floor" (defArgs s_Ratio_floor) (defBody s_Ratio_floor) (defScope s_Ratio_floor) .none kV_Ratio_floor dc_Ratio_floor pm_Ratio_floor an_Ratio_floor cd_Ratio_floor ct_Ratio_floor), sl_Ratio_floor⟩)
    (e_Ratio_floor : PySem.W.codeIn K cd_Ratio_floor "Ratio.floor" = true)
    (k_Ratio_floor : PySem.W.keepIn K (.ref f_Ratio_floor) = true)
    (a_Ratio_ceiling : PySem.W.findIn K (.ref C_Ratio) "ceiling" = some (some (.ref f_Ratio_ceiling)))
    (j_Ratio_ceiling : PySem.W.isFn K (.ref f_Ratio_ceiling) = true)
    (l_Ratio_ceiling : K.lookup f_Ratio_ceiling = some ⟨oc_Ratio_ceiling, od_Ratio_ceiling, .func (PySem.W.fnOf "ceiling" "Ratio.ceiling" (defArgs s_Ratio_ceiling) (defBody s_Ratio_ceiling) (defScope s_Ratio_ceiling) .none kV_Ratio_ceiling dc_Ratio_ceiling pm_Ratio_ceiling an_Ratio_ceiling cd_Ratio_ceiling ct_Ratio_ceiling), sl_Ratio_ceiling⟩)
    (e_Ratio_ceiling : PySem.W.codeIn K cd_Ratio_ceiling "Ratio.ceiling" = true)
    (k_Ratio_ceiling : PySem.W.keepIn K (.ref f_Ratio_ceiling) = true)
    (a_Ratio_text : PySem.W.findIn K (.ref C_Ratio) "text" = some (some (.ref f_Ratio_text)))
    (j_Ratio_text : PySem.W.isFn K (.ref f_Ratio_text) = true)
    (l_Ratio_text : K.lookup f_Ratio_text = some ⟨oc_Ratio_text, od_Ratio_text, .func (PySem.W.fnOf "text" "Ratio.text" (defArgs s_Ratio_text) (defBody s_Ratio_text) (defScope s_Ratio_text) .none kV_Ratio_text dc_Ratio_text pm_Ratio_text an_Ratio_text cd_Ratio_text ct_Ratio_text), sl_Ratio_text⟩)
    (e_Ratio_text : PySem.W.codeIn K cd_Ratio_text "Ratio.text" = true)
    (k_Ratio_text : PySem.W.keepIn K (.ref f_Ratio_text) = true)
    (a_l_cell : PySem.W.nsIn K mainGlobals "_law_cell" = some (some (.ref f_l_cell)))
    (l_l_cell : K.lookup f_l_cell = some ⟨oc_l_cell, od_l_cell, .func (PySem.W.fnOf "_law_cell" "_law_cell" (defArgs s_l_cell) (defBody s_l_cell) (defScope s_l_cell) .none kV_l_cell dc_l_cell pm_l_cell an_l_cell cd_l_cell ct_l_cell), sl_l_cell⟩)
    (e_l_cell : PySem.W.codeIn K cd_l_cell "_law_cell" = true)
    (k_l_cell : PySem.W.keepIn K (.ref f_l_cell) = true)
    (a_l_pool : PySem.W.nsIn K mainGlobals "_law_pool" = some (some (.ref f_l_pool)))
    (l_l_pool : K.lookup f_l_pool = some ⟨oc_l_pool, od_l_pool, .func (PySem.W.fnOf "_law_pool" "_law_pool" (defArgs s_l_pool) (defBody s_l_pool) (defScope s_l_pool) .none kV_l_pool dc_l_pool pm_l_pool an_l_pool cd_l_pool ct_l_pool), sl_l_pool⟩)
    (e_l_pool : PySem.W.codeIn K cd_l_pool "_law_pool" = true)
    (k_l_pool : PySem.W.keepIn K (.ref f_l_pool) = true)
    (a_l_take : PySem.W.nsIn K mainGlobals "_law_take" = some (some (.ref f_l_take)))
    (l_l_take : K.lookup f_l_take = some ⟨oc_l_take, od_l_take, .func (PySem.W.fnOf "_law_take" "_law_take" (defArgs s_l_take) (defBody s_l_take) (defScope s_l_take) .none kV_l_take dc_l_take pm_l_take an_l_take cd_l_take ct_l_take), sl_l_take⟩)
    (e_l_take : PySem.W.codeIn K cd_l_take "_law_take" = true)
    (k_l_take : PySem.W.keepIn K (.ref f_l_take) = true)
    (a_l_int : PySem.W.nsIn K mainGlobals "_law_int" = some (some (.ref f_l_int)))
    (l_l_int : K.lookup f_l_int = some ⟨oc_l_int, od_l_int, .func (PySem.W.fnOf "_law_int" "_law_int" (defArgs s_l_int) (defBody s_l_int) (defScope s_l_int) .none kV_l_int dc_l_int pm_l_int an_l_int cd_l_int ct_l_int), sl_l_int⟩)
    (e_l_int : PySem.W.codeIn K cd_l_int "_law_int" = true)
    (k_l_int : PySem.W.keepIn K (.ref f_l_int) = true)
    (a_l_number : PySem.W.nsIn K mainGlobals "_law_number" = some (some (.ref f_l_number)))
    (l_l_number : K.lookup f_l_number = some ⟨oc_l_number, od_l_number, .func (PySem.W.fnOf "_law_number" "_law_number" (defArgs s_l_number) (defBody s_l_number) (defScope s_l_number) .none kV_l_number dc_l_number pm_l_number an_l_number cd_l_number ct_l_number), sl_l_number⟩)
    (e_l_number : PySem.W.codeIn K cd_l_number "_law_number" = true)
    (k_l_number : PySem.W.keepIn K (.ref f_l_number) = true)
    (a_l_terms : PySem.W.nsIn K mainGlobals "_law_terms" = some (some (.ref f_l_terms)))
    (l_l_terms : K.lookup f_l_terms = some ⟨oc_l_terms, od_l_terms, .func (PySem.W.fnOf "_law_terms" "_law_terms" (defArgs s_l_terms) (defBody s_l_terms) (defScope s_l_terms) .none kV_l_terms dc_l_terms pm_l_terms an_l_terms cd_l_terms ct_l_terms), sl_l_terms⟩)
    (e_l_terms : PySem.W.codeIn K cd_l_terms "_law_terms" = true)
    (k_l_terms : PySem.W.keepIn K (.ref f_l_terms) = true)
    (a_l_passed : PySem.W.nsIn K mainGlobals "_law_passed" = some (some (.ref f_l_passed)))
    (l_l_passed : K.lookup f_l_passed = some ⟨oc_l_passed, od_l_passed, .func (PySem.W.fnOf "_law_passed" "_law_passed" (defArgs s_l_passed) (defBody s_l_passed) (defScope s_l_passed) .none kV_l_passed dc_l_passed pm_l_passed an_l_passed cd_l_passed ct_l_passed), sl_l_passed⟩)
    (e_l_passed : PySem.W.codeIn K cd_l_passed "_law_passed" = true)
    (k_l_passed : PySem.W.keepIn K (.ref f_l_passed) = true)
    (a_l_nearer : PySem.W.nsIn K mainGlobals "_law_nearer" = some (some (.ref f_l_nearer)))
    (l_l_nearer : K.lookup f_l_nearer = some ⟨oc_l_nearer, od_l_nearer, .func (PySem.W.fnOf "_law_nearer" "_law_nearer" (defArgs s_l_nearer) (defBody s_l_nearer) (defScope s_l_nearer) .none kV_l_nearer dc_l_nearer pm_l_nearer an_l_nearer cd_l_nearer ct_l_nearer), sl_l_nearer⟩)
    (e_l_nearer : PySem.W.codeIn K cd_l_nearer "_law_nearer" = true)
    (k_l_nearer : PySem.W.keepIn K (.ref f_l_nearer) = true)
    (a_l_coprime : PySem.W.nsIn K mainGlobals "_law_coprime" = some (some (.ref f_l_coprime)))
    (l_l_coprime : K.lookup f_l_coprime = some ⟨oc_l_coprime, od_l_coprime, .func (PySem.W.fnOf "_law_coprime" "_law_coprime" (defArgs s_l_coprime) (defBody s_l_coprime) (defScope s_l_coprime) .none kV_l_coprime dc_l_coprime pm_l_coprime an_l_coprime cd_l_coprime ct_l_coprime), sl_l_coprime⟩)
    (e_l_coprime : PySem.W.codeIn K cd_l_coprime "_law_coprime" = true)
    (k_l_coprime : PySem.W.keepIn K (.ref f_l_coprime) = true)
    (a_l_holds : PySem.W.nsIn K mainGlobals "_law_holds" = some (some (.ref f_l_holds)))
    (l_l_holds : K.lookup f_l_holds = some ⟨oc_l_holds, od_l_holds, .func (PySem.W.fnOf "_law_holds" "_law_holds" (defArgs s_l_holds) (defBody s_l_holds) (defScope s_l_holds) .none kV_l_holds dc_l_holds pm_l_holds an_l_holds cd_l_holds ct_l_holds), sl_l_holds⟩)
    (e_l_holds : PySem.W.codeIn K cd_l_holds "_law_holds" = true)
    (k_l_holds : PySem.W.keepIn K (.ref f_l_holds) = true)
    (a_l_alone : PySem.W.nsIn K mainGlobals "_law_alone" = some (some (.ref f_l_alone)))
    (l_l_alone : K.lookup f_l_alone = some ⟨oc_l_alone, od_l_alone, .func (PySem.W.fnOf "_law_alone" "_law_alone" (defArgs s_l_alone) (defBody s_l_alone) (defScope s_l_alone) .none kV_l_alone dc_l_alone pm_l_alone an_l_alone cd_l_alone ct_l_alone), sl_l_alone⟩)
    (e_l_alone : PySem.W.codeIn K cd_l_alone "_law_alone" = true)
    (k_l_alone : PySem.W.keepIn K (.ref f_l_alone) = true)
    (a_l_sums : PySem.W.nsIn K mainGlobals "_law_sums" = some (some (.ref f_l_sums)))
    (l_l_sums : K.lookup f_l_sums = some ⟨oc_l_sums, od_l_sums, .func (PySem.W.fnOf "_law_sums" "_law_sums" (defArgs s_l_sums) (defBody s_l_sums) (defScope s_l_sums) .none kV_l_sums dc_l_sums pm_l_sums an_l_sums cd_l_sums ct_l_sums), sl_l_sums⟩)
    (e_l_sums : PySem.W.codeIn K cd_l_sums "_law_sums" = true)
    (k_l_sums : PySem.W.keepIn K (.ref f_l_sums) = true)
    (a_l_equals : PySem.W.nsIn K mainGlobals "_law_equals" = some (some (.ref f_l_equals)))
    (l_l_equals : K.lookup f_l_equals = some ⟨oc_l_equals, od_l_equals, .func (PySem.W.fnOf "_law_equals" "_law_equals" (defArgs s_l_equals) (defBody s_l_equals) (defScope s_l_equals) .none kV_l_equals dc_l_equals pm_l_equals an_l_equals cd_l_equals ct_l_equals), sl_l_equals⟩)
    (e_l_equals : PySem.W.codeIn K cd_l_equals "_law_equals" = true)
    (k_l_equals : PySem.W.keepIn K (.ref f_l_equals) = true)
    (a_l_compares : PySem.W.nsIn K mainGlobals "_law_compares" = some (some (.ref f_l_compares)))
    (l_l_compares : K.lookup f_l_compares = some ⟨oc_l_compares, od_l_compares, .func (PySem.W.fnOf "_law_compares" "_law_compares" (defArgs s_l_compares) (defBody s_l_compares) (defScope s_l_compares) .none kV_l_compares dc_l_compares pm_l_compares an_l_compares cd_l_compares ct_l_compares), sl_l_compares⟩)
    (e_l_compares : PySem.W.codeIn K cd_l_compares "_law_compares" = true)
    (k_l_compares : PySem.W.keepIn K (.ref f_l_compares) = true)
    (a_l_order : PySem.W.nsIn K mainGlobals "_law_order" = some (some (.ref f_l_order)))
    (l_l_order : K.lookup f_l_order = some ⟨oc_l_order, od_l_order, .func (PySem.W.fnOf "_law_order" "_law_order" (defArgs s_l_order) (defBody s_l_order) (defScope s_l_order) .none kV_l_order dc_l_order pm_l_order an_l_order cd_l_order ct_l_order), sl_l_order⟩)
    (e_l_order : PySem.W.codeIn K cd_l_order "_law_order" = true)
    (k_l_order : PySem.W.keepIn K (.ref f_l_order) = true)
    (a_l_refuses : PySem.W.nsIn K mainGlobals "_law_refuses" = some (some (.ref f_l_refuses)))
    (l_l_refuses : K.lookup f_l_refuses = some ⟨oc_l_refuses, od_l_refuses, .func (PySem.W.fnOf "_law_refuses" "_law_refuses" (defArgs s_l_refuses) (defBody s_l_refuses) (defScope s_l_refuses) .none kV_l_refuses dc_l_refuses pm_l_refuses an_l_refuses cd_l_refuses ct_l_refuses), sl_l_refuses⟩)
    (e_l_refuses : PySem.W.codeIn K cd_l_refuses "_law_refuses" = true)
    (k_l_refuses : PySem.W.keepIn K (.ref f_l_refuses) = true)
    (a_l_law : PySem.W.nsIn K mainGlobals "law" = some (some (.ref f_l_law)))
    (l_l_law : K.lookup f_l_law = some ⟨oc_l_law, od_l_law, .func (PySem.W.fnOf "law" "law" (defArgs s_l_law) (defBody s_l_law) (defScope s_l_law) .none kV_l_law dc_l_law pm_l_law an_l_law cd_l_law ct_l_law), sl_l_law⟩)
    (e_l_law : PySem.W.codeIn K cd_l_law "law" = true)
    (k_l_law : PySem.W.keepIn K (.ref f_l_law) = true) :
    ∃ fd : FuncData, (∀ (s : Shared) (v : Value), BindsTo s fd ⟨[v], []⟩ [("script", v)]) ∧ ∀ base : Heap, K.In base → base.Ns mainGlobals mg → FnOk l.prog w K mg base CX0 5 fa fd ["script"] (sp_l_law K) := by
  have e := hfa.symm.trans (PySem.W.mg_of X G a_l_law)
  cases e
  have T_BadNumber : S_BadNumber K mg C_BadNumber := ⟨PySem.W.mg_of X G a_BadNumber, c_BadNumber_x, c_BadNumber_kp, c_BadNumber_b, c_BadNumber_t, c_BadNumber_i, c_BadNumber_s, c_BadNumber_hg, c_BadNumber_hk, c_BadNumber_hd, c_BadNumber_ha, c_BadNumber_hn, c_BadNumber_ht, c_BadNumber_hm⟩
  have T_BadRatio : S_BadRatio K mg C_BadRatio := ⟨PySem.W.mg_of X G a_BadRatio, c_BadRatio_x, c_BadRatio_kp, c_BadRatio_b, c_BadRatio_t, c_BadRatio_i, c_BadRatio_s, c_BadRatio_hg, c_BadRatio_hk, c_BadRatio_hd, c_BadRatio_ha, c_BadRatio_hn, c_BadRatio_ht, c_BadRatio_hm⟩
  have T_DampError : S_DampError K mg C_DampError := ⟨PySem.W.mg_of X G a_DampError, c_DampError_x, c_DampError_kp, c_DampError_b, c_DampError_t, c_DampError_i, c_DampError_s, c_DampError_hg, c_DampError_hk, c_DampError_hd, c_DampError_ha, c_DampError_hn, c_DampError_ht, c_DampError_hm⟩
  have T_Ratio : S_Ratio K mg C_Ratio := ⟨c_Ratio_pg, c_Ratio_hd, c_Ratio_po, c_Ratio_sa, PySem.W.mg_of X G a_Ratio, c_Ratio_sf, c_Ratio_nf, c_Ratio_ha, c_Ratio_hn, c_Ratio_ht, c_Ratio_hm, c_Ratio_kp, c_Ratio_mkk, c_Ratio_n_top, c_Ratio_n_bottom⟩
  have T_TooLarge : S_TooLarge K mg C_TooLarge := ⟨PySem.W.mg_of X G a_TooLarge, c_TooLarge_x, c_TooLarge_kp, c_TooLarge_b, c_TooLarge_t, c_TooLarge_i, c_TooLarge_s, c_TooLarge_hg, c_TooLarge_hk, c_TooLarge_hd, c_TooLarge_ha, c_TooLarge_hn, c_TooLarge_ht, c_TooLarge_hm⟩
  have z_ValueError : mg "ValueError" = none := PySem.W.mg_none_of X G y_ValueError
  have z_abs : mg "abs" = none := PySem.W.mg_none_of X G y_abs
  have z_bool : mg "bool" = none := PySem.W.mg_none_of X G y_bool
  have z_int : mg "int" = none := PySem.W.mg_none_of X G y_int
  have z_isinstance : mg "isinstance" = none := PySem.W.mg_none_of X G y_isinstance
  have z_len : mg "len" = none := PySem.W.mg_none_of X G y_len
  have z_max : mg "max" = none := PySem.W.mg_none_of X G y_max
  have z_range : mg "range" = none := PySem.W.mg_none_of X G y_range
  have z_str : mg "str" = none := PySem.W.mg_none_of X G y_str
  have i_gcd := PySem.W.mg_of X G y_gcd
  refine ⟨PySem.W.fnOf "law" "law" (defArgs s_l_law) (defBody s_l_law) (defScope s_l_law) .none kV_l_law dc_l_law pm_l_law an_l_law cd_l_law ct_l_law, fun s v => .of_eq rfl, fun base _ _ => ?_⟩
  have F_f_ceil_div := fun_mk (st := s_f_ceil_div) l_f_ceil_div e_f_ceil_div k_f_ceil_div
  have b_f_ceil_div := F_f_ceil_div.binds (ps := ["x", "y"]) fun _ _ _ _ _ _ us hl => match us, hl with | [_, _], _ => rfl
  have m_f_ceil_div := PySem.W.mg_of X G a_f_ceil_div
  have G_f_ceil_div : FnOk l.prog w K mg base CX0 1 f_f_ceil_div _ ["x", "y"] sp_f_ceil_div := ok_f_ceil_div F_f_ceil_div 
  have F_Ratio_init : FunD K "__init__" "Ratio.__init__" (defArgs s_Ratio_init) (defBody s_Ratio_init) (defScope s_Ratio_init) [.int 1] [] f_Ratio_init _ := ⟨⟨_, _, _, _, _, _, _, _, _, _, rfl, l_Ratio_init, e_Ratio_init, .inr ⟨by simp, t_Ratio_init, _, [.int 1 tk0_Ratio_init], _, rfl, lt_Ratio_init, rfl, .cons ⟨_, rfl⟩ (.nil)⟩, .inl rfl⟩, k_Ratio_init⟩
  obtain ⟨ds0_Ratio_init, vds0_Ratio_init, b_Ratio_init⟩ := F_Ratio_init.binds1 (ps := ["self", "top", "bottom"]) 3 1 (by simp) rfl (fun _ _ _ _ _ _ _ us its hl hi => match us, its, hl, hi with | [_, _, _], [_], _, _ => ⟨_, rfl, rfl⟩)
  cases vds0_Ratio_init
  obtain ⟨ds_Ratio_init, d_Ratio_init, bd_Ratio_init⟩ := F_Ratio_init.binds1 (ps := ["self", "top", "bottom"]) 2 0 (by simp) rfl (fun _ _ _ _ _ _ _ us its hl hi => match us, its, hl, hi with | [_, _], [_], _, _ => ⟨_, rfl, rfl⟩)
  obtain ⟨its_Ratio_init, bk_Ratio_init⟩ := F_Ratio_init.kbindsD (ps := ["self", "top", "bottom"]) 2 ["bottom"] (fun us _ ws => us ++ ws) (by simp) (fun r1 _ r3 => r1.append r3) (fun _ _ _ _ _ _ _ us its ws hl hi hw => match us, its, ws, hl, hi, hw with | [_, _], [_], [_], _, _, _ => ⟨_, rfl, rfl⟩)
  have I_Ratio : Mk K C_Ratio f_Ratio_init := ⟨c_Ratio_mkk, a_Ratio_init, j_Ratio_init, c_Ratio_kp⟩
  have G_Ratio_init : FnOk l.prog w K mg base (L2.CX l.prog w) 1 f_Ratio_init _ ["self", "top", "bottom"] (sp_Ratio_init C_Ratio C_BadRatio) := ok_Ratio_init F_Ratio_init (T_BadRatio := T_BadRatio) (T_Ratio := T_Ratio) (i_gcd := i_gcd)
  have F_Ratio_add := fun_mk (st := s_Ratio_add) l_Ratio_add e_Ratio_add k_Ratio_add
  have b_Ratio_add := F_Ratio_add.binds (ps := ["self", "other"]) fun _ _ _ _ _ _ us hl => match us, hl with | [_, _], _ => rfl
  have M_Ratio_add : Meth K C_Ratio "__add__" f_Ratio_add := ⟨a_Ratio_add, j_Ratio_add, k_Ratio_add⟩
  have G_Ratio_add : FnOk l.prog w K mg base CX0 3 f_Ratio_add _ ["self", "other"] (sp_Ratio_add C_Ratio) := ok_Ratio_add F_Ratio_add (T_BadRatio := T_BadRatio) (T_Ratio := T_Ratio) (G_Ratio_init := G_Ratio_init) (b_Ratio_init := b_Ratio_init) (I_Ratio := I_Ratio)
  have F_Ratio_sub := fun_mk (st := s_Ratio_sub) l_Ratio_sub e_Ratio_sub k_Ratio_sub
  have b_Ratio_sub := F_Ratio_sub.binds (ps := ["self", "other"]) fun _ _ _ _ _ _ us hl => match us, hl with | [_, _], _ => rfl
  have M_Ratio_sub : Meth K C_Ratio "__sub__" f_Ratio_sub := ⟨a_Ratio_sub, j_Ratio_sub, k_Ratio_sub⟩
  have G_Ratio_sub : FnOk l.prog w K mg base CX0 3 f_Ratio_sub _ ["self", "other"] (sp_Ratio_sub C_Ratio) := ok_Ratio_sub F_Ratio_sub (T_BadRatio := T_BadRatio) (T_Ratio := T_Ratio) (G_Ratio_init := G_Ratio_init) (b_Ratio_init := b_Ratio_init) (I_Ratio := I_Ratio)
  have F_Ratio_mul := fun_mk (st := s_Ratio_mul) l_Ratio_mul e_Ratio_mul k_Ratio_mul
  have b_Ratio_mul := F_Ratio_mul.binds (ps := ["self", "other"]) fun _ _ _ _ _ _ us hl => match us, hl with | [_, _], _ => rfl
  have M_Ratio_mul : Meth K C_Ratio "__mul__" f_Ratio_mul := ⟨a_Ratio_mul, j_Ratio_mul, k_Ratio_mul⟩
  have G_Ratio_mul : FnOk l.prog w K mg base CX0 3 f_Ratio_mul _ ["self", "other"] (sp_Ratio_mul C_Ratio) := ok_Ratio_mul F_Ratio_mul (T_BadRatio := T_BadRatio) (T_Ratio := T_Ratio) (G_Ratio_init := G_Ratio_init) (b_Ratio_init := b_Ratio_init) (I_Ratio := I_Ratio)
  have F_Ratio_neg := fun_mk (st := s_Ratio_neg) l_Ratio_neg e_Ratio_neg k_Ratio_neg
  have b_Ratio_neg := F_Ratio_neg.binds (ps := ["self"]) fun _ _ _ _ _ _ us hl => match us, hl with | [_], _ => rfl
  have M_Ratio_neg : Meth K C_Ratio "__neg__" f_Ratio_neg := ⟨a_Ratio_neg, j_Ratio_neg, k_Ratio_neg⟩
  have G_Ratio_neg : FnOk l.prog w K mg base CX0 3 f_Ratio_neg _ ["self"] (sp_Ratio_neg C_Ratio) := ok_Ratio_neg F_Ratio_neg (T_BadRatio := T_BadRatio) (T_Ratio := T_Ratio) (G_Ratio_init := G_Ratio_init) (b_Ratio_init := b_Ratio_init) (I_Ratio := I_Ratio)
  have F_Ratio_eq := fun_mk (st := s_Ratio_eq) l_Ratio_eq e_Ratio_eq k_Ratio_eq
  have b_Ratio_eq := F_Ratio_eq.binds (ps := ["self", "other"]) fun _ _ _ _ _ _ us hl => match us, hl with | [_, _], _ => rfl
  have M_Ratio_eq : Meth K C_Ratio "__eq__" f_Ratio_eq := ⟨a_Ratio_eq, j_Ratio_eq, k_Ratio_eq⟩
  have G_Ratio_eq : FnOk l.prog w K mg base CX0 1 f_Ratio_eq _ ["self", "other"] (sp_Ratio_eq C_Ratio) := ok_Ratio_eq F_Ratio_eq (T_Ratio := T_Ratio) (z_isinstance := z_isinstance)
  have F_Ratio_compare := fun_mk (st := s_Ratio_compare) l_Ratio_compare e_Ratio_compare k_Ratio_compare
  have b_Ratio_compare := F_Ratio_compare.binds (ps := ["self", "other"]) fun _ _ _ _ _ _ us hl => match us, hl with | [_, _], _ => rfl
  have M_Ratio_compare : Meth K C_Ratio "compare" f_Ratio_compare := ⟨a_Ratio_compare, j_Ratio_compare, k_Ratio_compare⟩
  have G_Ratio_compare : FnOk l.prog w K mg base CX0 1 f_Ratio_compare _ ["self", "other"] (sp_Ratio_compare C_Ratio) := ok_Ratio_compare F_Ratio_compare (T_Ratio := T_Ratio)
  have F_Ratio_floor := fun_mk (st := s_Ratio_floor) l_Ratio_floor e_Ratio_floor k_Ratio_floor
  have b_Ratio_floor := F_Ratio_floor.binds (ps := ["self"]) fun _ _ _ _ _ _ us hl => match us, hl with | [_], _ => rfl
  have M_Ratio_floor : Meth K C_Ratio "floor" f_Ratio_floor := ⟨a_Ratio_floor, j_Ratio_floor, k_Ratio_floor⟩
  have G_Ratio_floor : FnOk l.prog w K mg base CX0 1 f_Ratio_floor _ ["self"] (sp_Ratio_floor C_Ratio) := ok_Ratio_floor F_Ratio_floor (T_Ratio := T_Ratio)
  have F_Ratio_ceiling := fun_mk (st := s_Ratio_ceiling) l_Ratio_ceiling e_Ratio_ceiling k_Ratio_ceiling
  have b_Ratio_ceiling := F_Ratio_ceiling.binds (ps := ["self"]) fun _ _ _ _ _ _ us hl => match us, hl with | [_], _ => rfl
  have M_Ratio_ceiling : Meth K C_Ratio "ceiling" f_Ratio_ceiling := ⟨a_Ratio_ceiling, j_Ratio_ceiling, k_Ratio_ceiling⟩
  have G_Ratio_ceiling : FnOk l.prog w K mg base CX0 2 f_Ratio_ceiling _ ["self"] (sp_Ratio_ceiling C_Ratio) := ok_Ratio_ceiling F_Ratio_ceiling (T_Ratio := T_Ratio) (G_f_ceil_div := G_f_ceil_div) (m_f_ceil_div := m_f_ceil_div) (k_f_ceil_div := k_f_ceil_div) (b_f_ceil_div := b_f_ceil_div)
  have F_Ratio_text := fun_mk (st := s_Ratio_text) l_Ratio_text e_Ratio_text k_Ratio_text
  have b_Ratio_text := F_Ratio_text.binds (ps := ["self"]) fun _ _ _ _ _ _ us hl => match us, hl with | [_], _ => rfl
  have M_Ratio_text : Meth K C_Ratio "text" f_Ratio_text := ⟨a_Ratio_text, j_Ratio_text, k_Ratio_text⟩
  have G_Ratio_text : FnOk l.prog w K mg base CX0 1 f_Ratio_text _ ["self"] (sp_Ratio_text C_Ratio) := ok_Ratio_text F_Ratio_text (T_Ratio := T_Ratio) (z_str := z_str)
  have F_l_cell := fun_mk (st := s_l_cell) l_l_cell e_l_cell k_l_cell
  have b_l_cell := F_l_cell.binds (ps := ["script", "k"]) fun _ _ _ _ _ _ us hl => match us, hl with | [_, _], _ => rfl
  have m_l_cell := PySem.W.mg_of X G a_l_cell
  have G_l_cell : FnOk l.prog w K mg base CX0 1 f_l_cell _ ["script", "k"] (sp_l_cell K) := ok_l_cell F_l_cell (z_len := z_len)
  have F_l_pool := fun_mk (st := s_l_pool) l_l_pool e_l_pool k_l_pool
  have b_l_pool := F_l_pool.binds (ps := ["cell"]) fun _ _ _ _ _ _ us hl => match us, hl with | [_], _ => rfl
  have m_l_pool := PySem.W.mg_of X G a_l_pool
  have G_l_pool : FnOk l.prog w K mg base CX0 1 f_l_pool _ ["cell"] sp_l_pool := ok_l_pool F_l_pool (z_int := z_int)
  have F_l_take := fun_mk (st := s_l_take) l_l_take e_l_take k_l_take
  have b_l_take := F_l_take.binds (ps := ["pool", "size"]) fun _ _ _ _ _ _ us hl => match us, hl with | [_, _], _ => rfl
  have m_l_take := PySem.W.mg_of X G a_l_take
  have G_l_take : FnOk l.prog w K mg base CX0 1 f_l_take _ ["pool", "size"] sp_l_take := ok_l_take F_l_take (z_int := z_int)
  have F_l_int := fun_mk (st := s_l_int) l_l_int e_l_int k_l_int
  have b_l_int := F_l_int.binds (ps := ["x"]) fun _ _ _ _ _ _ us hl => match us, hl with | [_], _ => rfl
  have m_l_int := PySem.W.mg_of X G a_l_int
  have G_l_int : FnOk l.prog w K mg base CX0 1 f_l_int _ ["x"] (sp_l_int K) := ok_l_int F_l_int (z_bool := z_bool) (z_int := z_int) (z_isinstance := z_isinstance) (kit_int_bool := kit_int_bool) (kit_int_int := kit_int_int)
  have F_l_number := fun_mk (st := s_l_number) l_l_number e_l_number k_l_number
  have b_l_number := F_l_number.binds (ps := ["pool", "parts"]) fun _ _ _ _ _ _ us hl => match us, hl with | [_, _], _ => rfl
  have m_l_number := PySem.W.mg_of X G a_l_number
  have G_l_number : FnOk l.prog w K mg base CX0 2 f_l_number _ ["pool", "parts"] sp_l_number := ok_l_number F_l_number (z_range := z_range) (G_l_take := G_l_take) (m_l_take := m_l_take) (k_l_take := k_l_take) (b_l_take := b_l_take)
  have F_l_terms := fun_mk (st := s_l_terms) l_l_terms e_l_terms k_l_terms
  have b_l_terms := F_l_terms.binds (ps := ["pool"]) fun _ _ _ _ _ _ us hl => match us, hl with | [_], _ => rfl
  have m_l_terms := PySem.W.mg_of X G a_l_terms
  have G_l_terms : FnOk l.prog w K mg base CX0 3 f_l_terms _ ["pool"] (sp_l_terms) := ok_l_terms F_l_terms (z_max := z_max) (G_l_number := G_l_number) (m_l_number := m_l_number) (k_l_number := k_l_number) (b_l_number := b_l_number) (G_l_take := G_l_take) (m_l_take := m_l_take) (k_l_take := k_l_take) (b_l_take := b_l_take)
  have F_l_passed := fun_mk (st := s_l_passed) l_l_passed e_l_passed k_l_passed
  have b_l_passed := F_l_passed.binds (ps := ["pool", "terms"]) fun _ _ _ _ _ _ us hl => match us, hl with | [_, _], _ => rfl
  have m_l_passed := PySem.W.mg_of X G a_l_passed
  have G_l_passed : FnOk l.prog w K mg base CX0 3 f_l_passed _ ["pool", "terms"] (sp_l_passed) := ok_l_passed F_l_passed (z_max := z_max) (G_l_number := G_l_number) (m_l_number := m_l_number) (k_l_number := k_l_number) (b_l_number := b_l_number) (G_l_take := G_l_take) (m_l_take := m_l_take) (k_l_take := k_l_take) (b_l_take := b_l_take)
  have F_l_nearer := fun_mk (st := s_l_nearer) l_l_nearer e_l_nearer k_l_nearer
  have b_l_nearer := F_l_nearer.binds (ps := ["pair"]) fun _ _ _ _ _ _ us hl => match us, hl with | [_], _ => rfl
  have m_l_nearer := PySem.W.mg_of X G a_l_nearer
  have G_l_nearer : FnOk l.prog w K mg base CX0 1 f_l_nearer _ ["pair"] sp_l_nearer := ok_l_nearer F_l_nearer 
  have F_l_coprime := fun_mk (st := s_l_coprime) l_l_coprime e_l_coprime k_l_coprime
  have b_l_coprime := F_l_coprime.binds (ps := ["x", "y"]) fun _ _ _ _ _ _ us hl => match us, hl with | [_, _], _ => rfl
  have m_l_coprime := PySem.W.mg_of X G a_l_coprime
  have G_l_coprime : FnOk l.prog w K mg base CX0 1 f_l_coprime _ ["x", "y"] sp_l_coprime := ok_l_coprime F_l_coprime (z_abs := z_abs) (z_int := z_int) (z_range := z_range)
  have F_l_holds := fun_mk (st := s_l_holds) l_l_holds e_l_holds k_l_holds
  have b_l_holds := F_l_holds.binds (ps := ["fraction", "over", "under"]) fun _ _ _ _ _ _ us hl => match us, hl with | [_, _, _], _ => rfl
  have m_l_holds := PySem.W.mg_of X G a_l_holds
  have G_l_holds : FnOk l.prog w K mg base CX0 2 f_l_holds _ ["fraction", "over", "under"] (sp_l_holds C_Ratio) := ok_l_holds F_l_holds (T_Ratio := T_Ratio) (z_isinstance := z_isinstance) (G_l_coprime := G_l_coprime) (m_l_coprime := m_l_coprime) (k_l_coprime := k_l_coprime) (b_l_coprime := b_l_coprime) (G_l_int := G_l_int) (m_l_int := m_l_int) (k_l_int := k_l_int) (b_l_int := b_l_int)
  have F_l_alone := fun_mk (st := s_l_alone) l_l_alone e_l_alone k_l_alone
  have b_l_alone := F_l_alone.binds (ps := ["fraction", "pair"]) fun _ _ _ _ _ _ us hl => match us, hl with | [_, _], _ => rfl
  have m_l_alone := PySem.W.mg_of X G a_l_alone
  have G_l_alone : FnOk l.prog w K mg base CX0 4 f_l_alone _ ["fraction", "pair"] (sp_l_alone K C_Ratio) := ok_l_alone F_l_alone (T_Ratio := T_Ratio) (z_isinstance := z_isinstance) (z_str := z_str) (kit_str_str := kit_str_str) (G_l_holds := G_l_holds) (m_l_holds := m_l_holds) (k_l_holds := k_l_holds) (b_l_holds := b_l_holds) (G_l_int := G_l_int) (m_l_int := m_l_int) (k_l_int := k_l_int) (b_l_int := b_l_int) (G_Ratio_ceiling := G_Ratio_ceiling) (b_Ratio_ceiling := b_Ratio_ceiling) (M_Ratio_ceiling := M_Ratio_ceiling) (G_Ratio_floor := G_Ratio_floor) (b_Ratio_floor := b_Ratio_floor) (M_Ratio_floor := M_Ratio_floor) (G_Ratio_neg := G_Ratio_neg) (b_Ratio_neg := b_Ratio_neg) (M_Ratio_neg := M_Ratio_neg) (G_Ratio_text := G_Ratio_text) (b_Ratio_text := b_Ratio_text) (M_Ratio_text := M_Ratio_text)
  have F_l_sums := fun_mk (st := s_l_sums) l_l_sums e_l_sums k_l_sums
  have b_l_sums := F_l_sums.binds (ps := ["x", "y", "one", "other"]) fun _ _ _ _ _ _ us hl => match us, hl with | [_, _, _, _], _ => rfl
  have m_l_sums := PySem.W.mg_of X G a_l_sums
  have G_l_sums : FnOk l.prog w K mg base CX0 4 f_l_sums _ ["x", "y", "one", "other"] (sp_l_sums K C_Ratio) := ok_l_sums F_l_sums (T_Ratio := T_Ratio) (G_l_holds := G_l_holds) (m_l_holds := m_l_holds) (k_l_holds := k_l_holds) (b_l_holds := b_l_holds) (G_Ratio_add := G_Ratio_add) (b_Ratio_add := b_Ratio_add) (M_Ratio_add := M_Ratio_add) (G_Ratio_mul := G_Ratio_mul) (b_Ratio_mul := b_Ratio_mul) (M_Ratio_mul := M_Ratio_mul) (G_Ratio_sub := G_Ratio_sub) (b_Ratio_sub := b_Ratio_sub) (M_Ratio_sub := M_Ratio_sub)
  have F_l_equals := fun_mk (st := s_l_equals) l_l_equals e_l_equals k_l_equals
  have b_l_equals := F_l_equals.binds (ps := ["x", "y", "due"]) fun _ _ _ _ _ _ us hl => match us, hl with | [_, _, _], _ => rfl
  have m_l_equals := PySem.W.mg_of X G a_l_equals
  have G_l_equals : FnOk l.prog w K mg base CX0 2 f_l_equals _ ["x", "y", "due"] (sp_l_equals C_Ratio) := ok_l_equals F_l_equals (T_Ratio := T_Ratio) (z_bool := z_bool) (z_isinstance := z_isinstance) (kit_bool_bool := kit_bool_bool) (G_Ratio_eq := G_Ratio_eq) (b_Ratio_eq := b_Ratio_eq) (M_Ratio_eq := M_Ratio_eq)
  have F_l_compares := fun_mk (st := s_l_compares) l_l_compares e_l_compares k_l_compares
  have b_l_compares := F_l_compares.binds (ps := ["x", "y", "due"]) fun _ _ _ _ _ _ us hl => match us, hl with | [_, _, _], _ => rfl
  have m_l_compares := PySem.W.mg_of X G a_l_compares
  have G_l_compares : FnOk l.prog w K mg base CX0 2 f_l_compares _ ["x", "y", "due"] (sp_l_compares C_Ratio) := ok_l_compares F_l_compares (T_Ratio := T_Ratio) (G_l_int := G_l_int) (m_l_int := m_l_int) (k_l_int := k_l_int) (b_l_int := b_l_int) (G_Ratio_compare := G_Ratio_compare) (b_Ratio_compare := b_Ratio_compare) (M_Ratio_compare := M_Ratio_compare)
  have F_l_order := fun_mk (st := s_l_order) l_l_order e_l_order k_l_order
  have b_l_order := F_l_order.binds (ps := ["x", "y", "one", "other"]) fun _ _ _ _ _ _ us hl => match us, hl with | [_, _, _, _], _ => rfl
  have m_l_order := PySem.W.mg_of X G a_l_order
  have G_l_order : FnOk l.prog w K mg base CX0 3 f_l_order _ ["x", "y", "one", "other"] (sp_l_order K C_Ratio) := ok_l_order F_l_order (T_BadRatio := T_BadRatio) (T_Ratio := T_Ratio) (z_int := z_int) (G_l_compares := G_l_compares) (m_l_compares := m_l_compares) (k_l_compares := k_l_compares) (b_l_compares := b_l_compares) (G_l_equals := G_l_equals) (m_l_equals := m_l_equals) (k_l_equals := k_l_equals) (b_l_equals := b_l_equals) (G_Ratio_init := G_Ratio_init) (b_Ratio_init := b_Ratio_init) (I_Ratio := I_Ratio)
  have F_l_refuses := fun_mk (st := s_l_refuses) l_l_refuses e_l_refuses k_l_refuses
  have b_l_refuses := F_l_refuses.binds (ps := ["over"]) fun _ _ _ _ _ _ us hl => match us, hl with | [_], _ => rfl
  have m_l_refuses := PySem.W.mg_of X G a_l_refuses
  have G_l_refuses : FnOk l.prog w K mg base CX0 3 f_l_refuses _ ["over"] (sp_l_refuses) := ok_l_refuses F_l_refuses (T_BadNumber := T_BadNumber) (T_BadRatio := T_BadRatio) (T_DampError := T_DampError) (T_Ratio := T_Ratio) (T_TooLarge := T_TooLarge) (z_ValueError := z_ValueError) (z_isinstance := z_isinstance) (kit_BadRatio_BadNumber := kit_BadRatio_BadNumber) (kit_BadRatio_DampError := kit_BadRatio_DampError) (kit_BadRatio_TooLarge := kit_BadRatio_TooLarge) (kit_BadRatio_ValueError := kit_BadRatio_ValueError) (G_Ratio_init := G_Ratio_init) (b_Ratio_init := b_Ratio_init) (I_Ratio := I_Ratio)
  have F_l_law := fun_mk (st := s_l_law) l_l_law e_l_law k_l_law
  have G_l_law : FnOk l.prog w K mg base CX0 5 fa _ ["script"] (sp_l_law K) := ok_l_law F_l_law (T_BadRatio := T_BadRatio) (T_Ratio := T_Ratio) (z_range := z_range) (G_l_alone := G_l_alone) (m_l_alone := m_l_alone) (k_l_alone := k_l_alone) (b_l_alone := b_l_alone) (G_l_cell := G_l_cell) (m_l_cell := m_l_cell) (k_l_cell := k_l_cell) (b_l_cell := b_l_cell) (G_l_equals := G_l_equals) (m_l_equals := m_l_equals) (k_l_equals := k_l_equals) (b_l_equals := b_l_equals) (G_l_holds := G_l_holds) (m_l_holds := m_l_holds) (k_l_holds := k_l_holds) (b_l_holds := b_l_holds) (G_l_nearer := G_l_nearer) (m_l_nearer := m_l_nearer) (k_l_nearer := k_l_nearer) (b_l_nearer := b_l_nearer) (G_l_order := G_l_order) (m_l_order := m_l_order) (k_l_order := k_l_order) (b_l_order := b_l_order) (G_l_passed := G_l_passed) (m_l_passed := m_l_passed) (k_l_passed := k_l_passed) (b_l_passed := b_l_passed) (G_l_pool := G_l_pool) (m_l_pool := m_l_pool) (k_l_pool := k_l_pool) (b_l_pool := b_l_pool) (G_l_refuses := G_l_refuses) (m_l_refuses := m_l_refuses) (k_l_refuses := k_l_refuses) (b_l_refuses := b_l_refuses) (G_l_sums := G_l_sums) (m_l_sums := m_l_sums) (k_l_sums := k_l_sums) (b_l_sums := b_l_sums) (G_l_take := G_l_take) (m_l_take := m_l_take) (k_l_take := k_l_take) (b_l_take := b_l_take) (G_l_terms := G_l_terms) (m_l_terms := m_l_terms) (k_l_terms := k_l_terms) (b_l_terms := b_l_terms) (G_Ratio_add := G_Ratio_add) (b_Ratio_add := b_Ratio_add) (M_Ratio_add := M_Ratio_add) (G_Ratio_init := G_Ratio_init) (b_Ratio_init := b_Ratio_init) (I_Ratio := I_Ratio) (bd_Ratio_init := bd_Ratio_init) (d_Ratio_init := d_Ratio_init) (bk_Ratio_init := bk_Ratio_init) (G_Ratio_mul := G_Ratio_mul) (b_Ratio_mul := b_Ratio_mul) (M_Ratio_mul := M_Ratio_mul)
  exact G_l_law
end DP
open PySem PySem.W PyProof.Rows
set_option maxHeartbeats 0 in
theorem PySem.Challenge.cw_dampspells_k00_ratios_exact_holds : PySem.Challenge.rw_dampspells_k00_ratios_exact.Holds := by
  w_on; o_law; k_head; (case hw => w_witness2)
  k_fill
  refine L2.walk_of (l := PySem.Challenge.rw_dampspells_k00_ratios_exact) (n := 63) (k := 5) (x := "script") (CX := fun _ => L2.CX0) (sp := fun w => DP.sp_l_law _) rfl (by decide) rfl ⟨rfl, by decide, by decide⟩ (fun w h Y => PySem.W.kIn_of Y) ?F (fun _ _ a ns hl _ hS => ⟨a, ns, rfl, hS, hl, fun _ => rfl⟩) (fun _ _ _ _ _ h => h)
  case F =>
    intro w mg fa h KX G hmg
    refine' DP.all_mk KX G hmg ?a_BadNumber ?c_BadNumber_x ?c_BadNumber_kp ?c_BadNumber_b ?c_BadNumber_t ?c_BadNumber_i ?c_BadNumber_s ?c_BadNumber_hg ?c_BadNumber_hk ?c_BadNumber_hd ?c_BadNumber_ha ?c_BadNumber_hn ?c_BadNumber_ht ?c_BadNumber_hm ?a_BadRatio ?c_BadRatio_x ?c_BadRatio_kp ?c_BadRatio_b ?c_BadRatio_t ?c_BadRatio_i ?c_BadRatio_s ?c_BadRatio_hg ?c_BadRatio_hk ?c_BadRatio_hd ?c_BadRatio_ha ?c_BadRatio_hn ?c_BadRatio_ht ?c_BadRatio_hm ?a_DampError ?c_DampError_x ?c_DampError_kp ?c_DampError_b ?c_DampError_t ?c_DampError_i ?c_DampError_s ?c_DampError_hg ?c_DampError_hk ?c_DampError_hd ?c_DampError_ha ?c_DampError_hn ?c_DampError_ht ?c_DampError_hm ?a_Ratio ?c_Ratio_pg ?c_Ratio_hd ?c_Ratio_po ?c_Ratio_sa ?c_Ratio_sf ?c_Ratio_nf ?c_Ratio_ha ?c_Ratio_hn ?c_Ratio_ht ?c_Ratio_hm ?c_Ratio_kp ?c_Ratio_mkk ?c_Ratio_n_top ?c_Ratio_n_bottom ?a_TooLarge ?c_TooLarge_x ?c_TooLarge_kp ?c_TooLarge_b ?c_TooLarge_t ?c_TooLarge_i ?c_TooLarge_s ?c_TooLarge_hg ?c_TooLarge_hk ?c_TooLarge_hd ?c_TooLarge_ha ?c_TooLarge_hn ?c_TooLarge_ht ?c_TooLarge_hm ?kit_BadRatio_BadNumber ?kit_BadRatio_DampError ?kit_BadRatio_TooLarge ?kit_BadRatio_ValueError ?kit_bool_bool ?kit_int_bool ?kit_int_int ?kit_str_str ?y_ValueError ?y_abs ?y_bool ?y_int ?y_isinstance ?y_len ?y_max ?y_range ?y_str ?y_gcd ?a_f_ceil_div ?l_f_ceil_div ?e_f_ceil_div ?k_f_ceil_div ?a_Ratio_init ?j_Ratio_init ?l_Ratio_init ?lt_Ratio_init ?e_Ratio_init ?k_Ratio_init ?a_Ratio_add ?j_Ratio_add ?l_Ratio_add ?e_Ratio_add ?k_Ratio_add ?a_Ratio_sub ?j_Ratio_sub ?l_Ratio_sub ?e_Ratio_sub ?k_Ratio_sub ?a_Ratio_mul ?j_Ratio_mul ?l_Ratio_mul ?e_Ratio_mul ?k_Ratio_mul ?a_Ratio_neg ?j_Ratio_neg ?l_Ratio_neg ?e_Ratio_neg ?k_Ratio_neg ?a_Ratio_eq ?j_Ratio_eq ?l_Ratio_eq ?e_Ratio_eq ?k_Ratio_eq ?a_Ratio_compare ?j_Ratio_compare ?l_Ratio_compare ?e_Ratio_compare ?k_Ratio_compare ?a_Ratio_floor ?j_Ratio_floor ?l_Ratio_floor ?e_Ratio_floor ?k_Ratio_floor ?a_Ratio_ceiling ?j_Ratio_ceiling ?l_Ratio_ceiling ?e_Ratio_ceiling ?k_Ratio_ceiling ?a_Ratio_text ?j_Ratio_text ?l_Ratio_text ?e_Ratio_text ?k_Ratio_text ?a_l_cell ?l_l_cell ?e_l_cell ?k_l_cell ?a_l_pool ?l_l_pool ?e_l_pool ?k_l_pool ?a_l_take ?l_l_take ?e_l_take ?k_l_take ?a_l_int ?l_l_int ?e_l_int ?k_l_int ?a_l_number ?l_l_number ?e_l_number ?k_l_number ?a_l_terms ?l_l_terms ?e_l_terms ?k_l_terms ?a_l_passed ?l_l_passed ?e_l_passed ?k_l_passed ?a_l_nearer ?l_l_nearer ?e_l_nearer ?k_l_nearer ?a_l_coprime ?l_l_coprime ?e_l_coprime ?k_l_coprime ?a_l_holds ?l_l_holds ?e_l_holds ?k_l_holds ?a_l_alone ?l_l_alone ?e_l_alone ?k_l_alone ?a_l_sums ?l_l_sums ?e_l_sums ?k_l_sums ?a_l_equals ?l_l_equals ?e_l_equals ?k_l_equals ?a_l_compares ?l_l_compares ?e_l_compares ?k_l_compares ?a_l_order ?l_l_order ?e_l_order ?k_l_order ?a_l_refuses ?l_l_refuses ?e_l_refuses ?k_l_refuses ?a_l_law ?l_l_law ?e_l_law ?k_l_law
    (case a_BadNumber => k_is)
    (case c_BadNumber_x => k_exc)
    (case c_BadNumber_kp => k_is)
    (case c_BadNumber_b => k_is)
    (case c_BadNumber_t => k_is)
    (case c_BadNumber_i => k_is)
    (case c_BadNumber_s => k_is)
    (case c_BadNumber_hg => k_is)
    (case c_BadNumber_hk => k_is)
    (case c_BadNumber_hd => k_is)
    (case c_BadNumber_ha => k_is)
    (case c_BadNumber_hn => k_is)
    (case c_BadNumber_ht => k_is)
    (case c_BadNumber_hm => k_is)
    (case a_BadRatio => k_is)
    (case c_BadRatio_x => k_exc)
    (case c_BadRatio_kp => k_is)
    (case c_BadRatio_b => k_is)
    (case c_BadRatio_t => k_is)
    (case c_BadRatio_i => k_is)
    (case c_BadRatio_s => k_is)
    (case c_BadRatio_hg => k_is)
    (case c_BadRatio_hk => k_is)
    (case c_BadRatio_hd => k_is)
    (case c_BadRatio_ha => k_is)
    (case c_BadRatio_hn => k_is)
    (case c_BadRatio_ht => k_is)
    (case c_BadRatio_hm => k_is)
    (case a_DampError => k_is)
    (case c_DampError_x => k_exc)
    (case c_DampError_kp => k_is)
    (case c_DampError_b => k_is)
    (case c_DampError_t => k_is)
    (case c_DampError_i => k_is)
    (case c_DampError_s => k_is)
    (case c_DampError_hg => k_is)
    (case c_DampError_hk => k_is)
    (case c_DampError_hd => k_is)
    (case c_DampError_ha => k_is)
    (case c_DampError_hn => k_is)
    (case c_DampError_ht => k_is)
    (case c_DampError_hm => k_is)
    (case a_Ratio => k_is)
    (case c_Ratio_pg => k_is)
    (case c_Ratio_hd => k_is)
    (case c_Ratio_po => k_is)
    (case c_Ratio_sa => k_is)
    (case c_Ratio_sf => k_is)
    (case c_Ratio_nf => k_is)
    (case c_Ratio_ha => k_is)
    (case c_Ratio_hn => k_is)
    (case c_Ratio_ht => k_is)
    (case c_Ratio_hm => k_is)
    (case c_Ratio_kp => k_is)
    (case c_Ratio_mkk => k_is)
    (case c_Ratio_n_top => k_is)
    (case c_Ratio_n_bottom => k_is)
    (case a_TooLarge => k_is)
    (case c_TooLarge_x => k_exc)
    (case c_TooLarge_kp => k_is)
    (case c_TooLarge_b => k_is)
    (case c_TooLarge_t => k_is)
    (case c_TooLarge_i => k_is)
    (case c_TooLarge_s => k_is)
    (case c_TooLarge_hg => k_is)
    (case c_TooLarge_hk => k_is)
    (case c_TooLarge_hd => k_is)
    (case c_TooLarge_ha => k_is)
    (case c_TooLarge_hn => k_is)
    (case c_TooLarge_ht => k_is)
    (case c_TooLarge_hm => k_is)
    (case kit_BadRatio_BadNumber => first | k_is | decide +kernel | rfl)
    (case kit_BadRatio_DampError => first | k_is | decide +kernel | rfl)
    (case kit_BadRatio_TooLarge => first | k_is | decide +kernel | rfl)
    (case kit_BadRatio_ValueError => first | k_is | decide +kernel | rfl)
    (case kit_bool_bool => first | k_is | decide +kernel | rfl)
    (case kit_int_bool => first | k_is | decide +kernel | rfl)
    (case kit_int_int => first | k_is | decide +kernel | rfl)
    (case kit_str_str => first | k_is | decide +kernel | rfl)
    (case y_ValueError => k_is)
    (case y_abs => k_is)
    (case y_bool => k_is)
    (case y_int => k_is)
    (case y_isinstance => k_is)
    (case y_len => k_is)
    (case y_max => k_is)
    (case y_range => k_is)
    (case y_str => k_is)
    (case y_gcd => k_is)
    (case a_f_ceil_div => k_is)
    (case l_f_ceil_div => k_is)
    (case e_f_ceil_div => k_is)
    (case k_f_ceil_div => k_is)
    (case a_Ratio_init => k_is)
    (case j_Ratio_init => k_is)
    (case l_Ratio_init => k_is)
    (case lt_Ratio_init => k_is)
    (case e_Ratio_init => k_is)
    (case k_Ratio_init => k_is)
    (case a_Ratio_add => k_is)
    (case j_Ratio_add => k_is)
    (case l_Ratio_add => k_is)
    (case e_Ratio_add => k_is)
    (case k_Ratio_add => k_is)
    (case a_Ratio_sub => k_is)
    (case j_Ratio_sub => k_is)
    (case l_Ratio_sub => k_is)
    (case e_Ratio_sub => k_is)
    (case k_Ratio_sub => k_is)
    (case a_Ratio_mul => k_is)
    (case j_Ratio_mul => k_is)
    (case l_Ratio_mul => k_is)
    (case e_Ratio_mul => k_is)
    (case k_Ratio_mul => k_is)
    (case a_Ratio_neg => k_is)
    (case j_Ratio_neg => k_is)
    (case l_Ratio_neg => k_is)
    (case e_Ratio_neg => k_is)
    (case k_Ratio_neg => k_is)
    (case a_Ratio_eq => k_is)
    (case j_Ratio_eq => k_is)
    (case l_Ratio_eq => k_is)
    (case e_Ratio_eq => k_is)
    (case k_Ratio_eq => k_is)
    (case a_Ratio_compare => k_is)
    (case j_Ratio_compare => k_is)
    (case l_Ratio_compare => k_is)
    (case e_Ratio_compare => k_is)
    (case k_Ratio_compare => k_is)
    (case a_Ratio_floor => k_is)
    (case j_Ratio_floor => k_is)
    (case l_Ratio_floor => k_is)
    (case e_Ratio_floor => k_is)
    (case k_Ratio_floor => k_is)
    (case a_Ratio_ceiling => k_is)
    (case j_Ratio_ceiling => k_is)
    (case l_Ratio_ceiling => k_is)
    (case e_Ratio_ceiling => k_is)
    (case k_Ratio_ceiling => k_is)
    (case a_Ratio_text => k_is)
    (case j_Ratio_text => k_is)
    (case l_Ratio_text => k_is)
    (case e_Ratio_text => k_is)
    (case k_Ratio_text => k_is)
    (case a_l_cell => k_is)
    (case l_l_cell => k_is)
    (case e_l_cell => k_is)
    (case k_l_cell => k_is)
    (case a_l_pool => k_is)
    (case l_l_pool => k_is)
    (case e_l_pool => k_is)
    (case k_l_pool => k_is)
    (case a_l_take => k_is)
    (case l_l_take => k_is)
    (case e_l_take => k_is)
    (case k_l_take => k_is)
    (case a_l_int => k_is)
    (case l_l_int => k_is)
    (case e_l_int => k_is)
    (case k_l_int => k_is)
    (case a_l_number => k_is)
    (case l_l_number => k_is)
    (case e_l_number => k_is)
    (case k_l_number => k_is)
    (case a_l_terms => k_is)
    (case l_l_terms => k_is)
    (case e_l_terms => k_is)
    (case k_l_terms => k_is)
    (case a_l_passed => k_is)
    (case l_l_passed => k_is)
    (case e_l_passed => k_is)
    (case k_l_passed => k_is)
    (case a_l_nearer => k_is)
    (case l_l_nearer => k_is)
    (case e_l_nearer => k_is)
    (case k_l_nearer => k_is)
    (case a_l_coprime => k_is)
    (case l_l_coprime => k_is)
    (case e_l_coprime => k_is)
    (case k_l_coprime => k_is)
    (case a_l_holds => k_is)
    (case l_l_holds => k_is)
    (case e_l_holds => k_is)
    (case k_l_holds => k_is)
    (case a_l_alone => k_is)
    (case l_l_alone => k_is)
    (case e_l_alone => k_is)
    (case k_l_alone => k_is)
    (case a_l_sums => k_is)
    (case l_l_sums => k_is)
    (case e_l_sums => k_is)
    (case k_l_sums => k_is)
    (case a_l_equals => k_is)
    (case l_l_equals => k_is)
    (case e_l_equals => k_is)
    (case k_l_equals => k_is)
    (case a_l_compares => k_is)
    (case l_l_compares => k_is)
    (case e_l_compares => k_is)
    (case k_l_compares => k_is)
    (case a_l_order => k_is)
    (case l_l_order => k_is)
    (case e_l_order => k_is)
    (case k_l_order => k_is)
    (case a_l_refuses => k_is)
    (case l_l_refuses => k_is)
    (case e_l_refuses => k_is)
    (case k_l_refuses => k_is)
    (case a_l_law => k_is)
    (case l_l_law => k_is)
    (case e_l_law => k_is)
    (case k_l_law => k_is)
