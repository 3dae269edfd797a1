import PyProof.Rows.All
import Wide.All
import OpenK.AllK
import Wide.FinOn
import HandS.ForMost
import HandS.ForExc
import HandS.Wide
import HandS.SlotsOwn
import HandS.ExcIs
import HandS.Gcd
import HandS.Codes
import HandS.IsInst
import HandS.MakeKw
import HandS.Defaults
import HandS.FStr
import HandS.Property
import KE.KOpsOwn
import KE.KOwnIter
import KE.DataMinMax
import PyProof.MaxThree
import HandS.Flow
import HandS.Style
import HandS.SortKw
import HandS.IterVal
import HandS.ClsMeth
import HandS.Star
import HandS.RaiseMore
import PySem.Challenge.RW_dampspells_k16_bookings_and_tops
set_option Elab.async false
set_option linter.all false
set_option maxRecDepth 100000
namespace OW
open PySem PySem.Spec PyProof.Rows L2
/-- what the operators of the class at C ask -/
def rOwn2 (C : Addr) (sp : Sp) (E : XK) : R2 := fun x y H Q => ∃ a dx fs b dy gs, x = .ref a ∧ y = .ref b ∧ H a = some (.ins C dx fs) ∧ H b = some (.ins C dy gs) ∧ sp [x, y] H Q E
def rOwn1 (C : Addr) (sp : Sp) (E : XK) : V → Hp → VK → Prop := fun x H Q => ∃ a dx fs, x = .ref a ∧ H a = some (.ins C dx fs) ∧ sp [x] H Q E
section
variable {X : Cx} {CX : CXT} {k : Nat} {C f : Addr} {fd : FuncData} {ps : List Str} {sp : Sp} {E : XK}
theorem inst {pins : List (Addr × Obj)} {σ : L2.St} {H : Hp} {s : Shared} {a dx : Addr} {fs : List (Str × V)} (I : Inv X pins σ H s) (e : H a = some (.ins C dx fs)) : ∃ ox od, PySem.W.InstAt s.heap a ox C od := by
  exact let ⟨_, O, _⟩ := ins_get I.hok e; let ⟨od, J, _⟩ := O.look; ⟨_, od, J⟩
theorem op_bin {op : Operator} {m : Str} (hm : m = PySem.dunder op.info.2) (M : Meth X.K C m f) (hc : PySem.W.selfFirst X.K C = true) (F : FnOk X.prog X.w X.K X.mg X.base CX k f fd ps sp) (hr : Room k X.A) (hb : Binds X.K fd ps []) (hx : Passes CX X E) :
    OpR X (binaryOp op) (rOwn2 C sp E) := by
  intro pn s σ H x y v u Q I rx ry ⟨a, dx, fs, b, dy, gs, ex, ey, ha, hb', q⟩
  subst ex ey
  cases rx; cases ry
  obtain ⟨ox, od, J⟩ := inst I ha
  obtain ⟨oy, od', J'⟩ := inst I hb'
  obtain ⟨m', hF⟩ := I.fr
  subst hm
  refine PySem.W.binop_K hF I.ok.mod.kin J J'.type hc M.at_ M.fn ?_
  refine wpAny_mono (run_fn (us := [.ref a, .ref b]) (vs := [.ref a, .ref b]) F hr hb .nil hx I (.cons rfl (.cons rfl .nil)) q) (fun w s' z => ?_) fun _ _ x => x
  exact let ⟨z1, H1, J1, r1, q1⟩ := z; SlX.cmpback r1 ⟨z1, H1, J1, r1, q1⟩
theorem op_cmp {op : CmpOp} {m : Str} (hm : m = (PySem.cmpInfo op).2.1) (hop : ∀ a b, compareOp op a b = richCompare op a b) (M : Meth X.K C m f) (hn : PySem.W.notFirst X.K C (.ref C) = true) (F : FnOk X.prog X.w X.K X.mg X.base CX k f fd ps sp) (hr : Room k X.A) (hb : Binds X.K fd ps []) (hx : Passes CX X E) :
    OpR X (compareOp op) (rOwn2 C sp E) := by
  intro pn s σ H x y v u Q I rx ry ⟨a, dx, fs, b, dy, gs, ex, ey, ha, hb', q⟩
  subst ex ey
  cases rx; cases ry
  obtain ⟨ox, od, J⟩ := inst I ha
  obtain ⟨oy, od', J'⟩ := inst I hb'
  obtain ⟨m', hF⟩ := I.fr
  subst hm
  rw [hop]
  refine PySem.W.cmp_K (op := op) (tb := .ref C) hr.units0 hF I.ok.mod.kin J J'.type hn M.at_ M.fn ?_
  refine wpAny_mono (run_fn (us := [.ref a, .ref b]) (vs := [.ref a, .ref b]) F hr hb .nil hx I (.cons rfl (.cons rfl .nil)) q) (fun w s' z => ?_) fun _ _ x => x
  exact let ⟨z1, H1, J1, r1, q1⟩ := z; SlX.cmpback r1 ⟨z1, H1, J1, r1, q1⟩
theorem un_neg {m : Str} (hm : m = "__neg__") (M : Meth X.K C m f) (F : FnOk X.prog X.w X.K X.mg X.base CX k f fd ps sp) (hr : Room k X.A) (hb : Binds X.K fd ps []) (hx : Passes CX X E) : UnR X (unaryOp .USub) (rOwn1 C sp E) := by
  intro pn s σ H x v Q I rx ⟨a, dx, fs, ex, ha, q⟩
  subst ex
  cases rx
  obtain ⟨ox, od, J⟩ := inst I ha
  obtain ⟨m', hF⟩ := I.fr
  subst hm
  refine PySem.W.ksp_neg hF I.ok.mod.kin J M.at_ M.fn ?_
  exact run_fn (us := [.ref a]) (vs := [.ref a]) F hr hb .nil hx I (.cons rfl .nil) q
/-- x in o, o of the class at C: its __contains__ gives a bool -/
def rInOwn (C : Addr) (sp : Sp) (E : XK) (neg : Bool) : R2 := fun y x H Q => ∃ a dx fs, x = .ref a ∧ H a = some (.ins C dx fs) ∧ sp [x, y] H (fun z H' => ∃ b, z = .bl b ∧ Q (.bl (if neg then !b else b)) H') E
theorem op_in {m : Str} (hm : m = "__contains__") (M : Meth X.K C m f) (F : FnOk X.prog X.w X.K X.mg X.base CX k f fd ps sp) (hr : Room k X.A) (hb : Binds X.K fd ps []) (hx : Passes CX X E) : OpR X (compareOp .In) (rInOwn C sp E false) := by
  intro pn s σ H y x v u Q I ry rx ⟨a, dx, fs, ex, ha, q⟩
  subst ex
  cases rx
  obtain ⟨ox, od, J⟩ := inst I ha
  obtain ⟨m', hF⟩ := I.fr
  subst hm
  refine PySem.W.in_K hF I.ok.mod.kin J M.at_ M.fn ?_
  refine wpAny_mono (run_fn (us := [.ref a, v]) (vs := [.ref a, y]) F hr hb .nil hx I (.cons rfl (.cons ry .nil)) q) (fun w s' z => ?_) fun _ _ x => x
  obtain ⟨z', H', I', rz, b, eb, qz⟩ := z
  subst eb
  cases (show w = Value.bool b from rz)
  exact wpAny_truthy_bool ⟨.bl b, H', I', rfl, qz⟩
end
end OW
namespace OW
open PySem PySem.Spec PyProof.Rows L2
/-- // by any divisor but 0 below 2 ^ 9000 -/
def CDivA (_ j : Int) : Prop := j ≠ 0 ∧ j.natAbs.log2 < 9000
def wInt1 : List V → Hp → VK → Prop := fun xs H Q => (∃ i, xs = [.int i] ∧ Q (.int i) H) ∨ ∃ k, xs = [.bl k] ∧ Q (.int (if k = true then 1 else 0)) H
def wAbs : List V → Hp → VK → Prop := fun xs H Q => ∃ i, xs = [.int i] ∧ Q (.int (if i < 0 then -i else i)) H
def wMax2 : List V → Hp → VK → Prop := fun xs H Q => ∃ i j, xs = [.int i, .int j] ∧ Q (.int (if j > i then j else i)) H
def wMin2 : List V → Hp → VK → Prop := fun xs H Q => ∃ i j, xs = [.int i, .int j] ∧ Q (.int (if j < i then j else i)) H
def wStrI : List V → Hp → VK → Prop := fun xs H Q => ∃ i, xs = [.int i] ∧ i.natAbs.log2 < 1920 ∧ Q (.str (toString i)) H
def wLen (K : PySem.W.Frag) : List V → Hp → VK → Prop := fun xs H Q => ∃ p ys, xs = [.ref p] ∧ (SqL K H p ys ∨ SqT K H p ys) ∧ Q (.int ys.length) H
def wLenS : List V → Hp → VK → Prop := fun xs H Q => ∃ z, xs = [.str z] ∧ z.length ≤ sizeLine ∧ Q (.int z.length) H
def wAddS : R2 := fun x y H Q => ∃ i j, x = .str i ∧ y = .str j ∧ i.length + j.length ≤ sizeLine ∧ Q (.str (i ++ j)) H
/-- isinstance of the exception that a suite holds (its class has no own __init__) -/
def rIsEE (K : PySem.W.Frag) (a : Addr) (cls : Value) (d : Option Addr) : List V → Hp → VK → Prop := fun xs H Q => ∃ (D : Addr) (c : V) (cv : Value) (b : Bool), xs = [.ref a, c] ∧ cls = .ref D ∧ d = none ∧ ExcC K D ∧ (∀ u, RelV c u → u = cv) ∧ PySem.W.kitOne K (.ref D) cv = some b ∧ Q (.bl b) H
section
variable {X : Cx}
theorem op_fdivA : OpR X (binaryOp .FloorDiv) (rI CDivA fun i j => .int (i.fdiv j)) := opI fun i j _ _ _ _ _ hc q => floordiv_int hc.1 q (.inl (PyProof.noPylong_of_log2 hc.2))
theorem c_int1 : CallR X (.type "int") wInt1 := call_int1
theorem c_abs : CallR X (.builtin "abs") wAbs := call_abs
theorem c_max2 (hc : X.calm = true) : CallR X (.builtin "max") wMax2 := call_max2 hc
theorem c_min2 (hc : X.calm = true) : CallR X (.builtin "min") wMin2 := call_min2 hc
theorem c_strI : CallR X (.type "str") wStrI := call_str_int
theorem c_len : CallR X (.builtin "len") (wLen X.K) := call_len_seq
theorem c_lenS : CallR X (.builtin "len") wLenS := call_len_str
theorem op_addS : OpR X (binaryOp .Add) wAddS := op_add_str
theorem c_isEE {a : Addr} {oe : Obj} {cls : Value} {d : Option Addr} {pn : List (Addr × Obj)} (hz : Zc cls d oe) (hf : ∃ vs, oe.data = .fields vs) : CallR (X.suite a ((a, oe) :: pn)) (.builtin "isinstance") (rIsEE X.K a cls d) := by
  intro pn s σ H xs us Q I r ⟨D, c, cv, b, ex, ec, ed, hE, hc, e, q⟩
  subst ex ec ed
  exact call_isE hE hz hf pn s σ H _ us Q I r ⟨c, cv, b, rfl, hc, e, q⟩
end
/-- C(e, ..) in the body of a try: what its __init__ lets out meets the wish at the slots as they stand -/
def tMakeS (C : Addr) (sp : Sp) (dvs : List V) (E : L2.St → XK) (t : TA) : TE := fun σ H Q =>
  t σ H fun vs G => ∀ o d, G o = none → G d = none → d ≠ o →
    sp (.ref o :: (vs ++ dvs)) (upd (upd G d (.own o)) o (.ins C d [])) (fun v G' => v = .non ∧ Q (.ref o) G') (E σ)
section
variable {X : Cx} {CX : CXT} {k : Nat} {C f : Addr} {fd : FuncData} {ps : List Str} {sp : Sp} {ds : List Value} {dvs : List V}
/-- the new object and its dict are the heap's next two places -/
theorem run_makeS {pn : List (Addr × Obj)} {σ : L2.St} {G : Hp} {s : Shared} {Q : VK} {us : List Value} {vs : List V} {E : XK}
    (M : Mk X.K C f) (F : FnOk X.prog X.w X.K X.mg X.base CX k f fd ps sp) (room : Room (k + 1) X.A) (bd : Binds X.K fd ps ds) (vd : Vals dvs ds) (px : PassesAt CX X σ E) (I : Inv X pn σ G s) (rv : Vals vs us)
    (want : ∀ o d, G o = none → G d = none → d ≠ o → sp (.ref o :: (vs ++ dvs)) (upd (upd G d (.own o)) o (.ins C d [])) (fun v G' => v = .non ∧ Q (.ref o) G') E) :
    wpAny (model X.prog X.w) X.A (call (.ref C) us) (EP X pn σ Q) X.xe s := by
  let d := s.heap.objs.size
  let o := d + 1
  have fresh : ∀ a, d ≤ a → G a = none := fun a h => I.hok.fresh h
  have w0 := want o d (fresh o (Nat.le_succ d)) (fresh d (Nat.le_refl d)) (Nat.ne_of_lt (Nat.lt_succ_self d))
  have I1 := I.made (C := C)
  have rall : Vals (V.ref o :: (vs ++ dvs)) (Value.ref o :: (us ++ ds)) := .cons rfl (rv.append vd)
  have len : (Value.ref o :: us ++ ds).length = ps.length := rall.length.symm.trans (F.len _ _ _ _ w0)
  have body := F.run _ X.stack _ _ ⟨Value.ref o :: us, []⟩ (Value.ref o :: (us ++ ds)) _ _ E (room.make C us []) (I1.env0.make C us []) (bd _ (Value.ref o :: us) I1.kIn len) rall w0
  refine wpAny_call (make_map (f := f) I.kIn M.makes M.init (beq_iff_eq.mp M.fn) (codeAny_mono body ?_))
  rintro (er | fl) s1 h1
  · exact px pn _ _ er s1 I1 h1
  · cases fl with
    | ret u => exact let ⟨_, G1, J, ru, ev, q⟩ := I1.after h1; ⟨by subst ev; exact ru, .ref o, G1, J, rfl, q⟩
    | _ => exact h1.elim
theorem pe_makeS {E : L2.St → XK} {x : Str} {p pos : Pos} {e : Expr} {es : List Expr} {t : TA} (M : Mk X.K C f) (F : FnOk X.prog X.w X.K X.mg X.base CX k f fd ps sp) (room : Room (k + 1) X.A) (hg : Gl X x) (hm : X.mg x = some (.ref C)) (bd : Binds X.K fd ps ds) (vd : Vals dvs ds)
    (px : ∀ σ, PassesAt CX X σ (E σ)) (args : PA X (e :: es) t)
    (nd : (x == ("__debug__" : Str)) = false := by decide) (h1 : starEach (e :: es) X.env = (false, eval e X.env) :: starEach es X.env := by rfl) (h2 : (backTo pos (starEach es X.env)).any (·.1) = false := by rfl) :
    PE X (.Call (.Name x p) (e :: es) [] pos) (tMakeS C sp dvs E t) where
  run pn s σ G Q I h := by
    refine wpAny_Call_Name_kw (ld_glob I hg hm ?_ nd)
    refine PySem.W.callWith_K (h₀ := X.base) I.ok.mod.kin M.kp ?_ h1 h2
    refine thn (args.run pos pn s σ G _ I h) ?_
    rintro us s1 ⟨_, _, J, rv, q⟩
    exact ⟨J.kIn, run_makeS M F room bd vd (px σ) J rv q⟩
end
end OW
namespace OW
open PySem PySem.Spec PyProof.Rows L2
def wFmt : V → Hp → VK → Prop := fun x H Q => (∃ y : Str, x = .str y ∧ y.length ≤ sizeLine ∧ Q (.str y) H) ∨ ∃ i : Int, x = .int i ∧ i.natAbs.log2 < 1920 ∧ Q (.str (toString i)) H
theorem pe_fmtU {X : Cx} {e : Expr} {te : TE} {pos : Pos} (he : PE X e te) : PE X (.FormattedValue e (-1) none pos) (tUn wFmt te) := pe_fmt he
end OW
namespace OW
open PySem PySem.Spec PyProof.Rows L2
section
variable {P : Program} {w : World} {K : PySem.W.Frag} {mg : Str → Option Value} {base : Heap} {x qual : Str} {st : Stmt} {dvs : List V} {kws : List (Str × V)} {f : Addr} {fd : FuncData} {N ps : List Str} {k : Nat} {sp : Sp}
/-- what is to be shown of a def's body: W its wish for exceptions -/
def BodyOk (P : Program) (w : World) (K : PySem.W.Frag) (mg : Str → Option Value) (base : Heap) (N : List Str) (qual : Str) (st : Stmt) (f : Addr) (k : Nat) (sp : Sp) (CX : CXT) (no : Bool) : Prop :=
  ∀ (cdv : Value) (A : Around) (outer : List Env) (s : Shared) (H : Hp) (vs : List V) (Q : VK) (E : XK),
    Room k (A.deeper (envOfC qual (defScope st) s.heap.objs.size f cdv)) → sp vs H Q E → ∃ t,
      (if no = true then PSs (cxOf CX P w K mg base N qual (defScope st) f cdv A outer s H E).nox (defBody st) t else PSs (cxOf CX P w K mg base N qual (defScope st) f cdv A outer s H E) (defBody st) t) ∧
      t { nx := fun _ H' => Q .non H', rt := Q } (start N vs) H
theorem okD (F : FunD K x qual (defArgs st) (defBody st) (defScope st) dvs kws f fd) (S : FnScope N ps (defScope st)) (len : ∀ vs H Q E, sp vs H Q E → vs.length = ps.length) (body : BodyOk P w K mg base N qual st f k sp CX0 true) : FnOk P w K mg base CX0 (k + 1) f fd ps sp :=
  F.ok S len fun cdv A outer s H vs Q E hr h => let ⟨t, h1, q⟩ := body cdv A outer s H vs Q E hr h; ⟨t, PSs.nox h1, q⟩
theorem okDX (F : FunD K x qual (defArgs st) (defBody st) (defScope st) dvs kws f fd) (S : FnScope N ps (defScope st)) (len : ∀ vs H Q E, sp vs H Q E → vs.length = ps.length) (body : BodyOk P w K mg base N qual st f k sp (L2.CX P w) false) : FnOk P w K mg base (L2.CX P w) (k + 1) f fd ps sp :=
  F.ok S len fun cdv A outer s H vs Q E hr h => let ⟨t, h1, q⟩ := body cdv A outer s H vs Q E hr h; ⟨t, h1, q⟩
end
end OW
namespace OW
open PySem PySem.Spec PyProof.Rows L2
/-! an instance that is walked: its __iter__ gives iter(its tuple) -/
/-- the tuple's iterator at its start -/
def TIt (t it : Addr) : HO := .ext fun h => h.IsTupleIter it t 0
theorem tit_ok {P : Program} {w : World} {H : Hp} {h : Heap} {t it : Addr} (e : h.IsTupleIter it t 0) : ObjOk P w H h it (TIt t it) := by
  obtain ⟨o, ho, z⟩ := id e
  exact ⟨e, ⟨o, ho⟩, fun h1 h2 q k => q.at k⟩
/-- a def whose promise knows how many places the heap has when it is entered -/
structure FnS (P : Program) (w : World) (K : PySem.W.Frag) (mg : Str → Option Value) (base : Heap) (k : Nat) (f : Addr) (fd : FuncData) (ps : List Str) (sp : Nat → Sp) : Prop where
  len : ∀ n vs H Q E, sp n vs H Q E → vs.length = ps.length
  run : ∀ (A : Around) (outer : List Env) (s : Shared) (H : Hp) (args : Args) (us : List Value) (vs : List V) (Q : VK) (E : XK), Room k A → Env0 P w K mg base A outer s H → BindsTo s fd args (ps.zip us) → Vals vs us →
    sp s.heap.objs.size vs H Q E → codeAny (model P w) A (.call (.ref f) args) (CR CX0 outer P w H s Q E) s
theorem okS {P : Program} {w : World} {K : PySem.W.Frag} {mg : Str → Option Value} {base : Heap} {x qual : Str} {st : Stmt} {f : Addr} {fd : FuncData} {N ps : List Str} {k : Nat} {sp : Nat → Sp} (F : L2.Fun K x qual st f fd) (S : FnScope N ps (defScope st))
    (len : ∀ n vs H Q E, sp n vs H Q E → vs.length = ps.length)
    (body : ∀ (cdv : Value) (A : Around) (outer : List Env) (s : Shared) (H : Hp) (vs : List V) (Q : VK) (E : XK), Room k (A.deeper (envOfC qual (defScope st) s.heap.objs.size f cdv)) → sp s.heap.objs.size vs H Q E →
      ∃ t, PSs (cxOf CX0 P w K mg base N qual (defScope st) f cdv A outer s H E).nox (defBody st) t ∧ t { nx := fun _ G => Q .non G, rt := Q } (start N vs) H) : FnS P w K mg base (k + 1) f fd ps sp := by
  obtain ⟨oc, od, kV, doc, pm, an, cdv, ct, osl, rfl, look, code⟩ := F.ex
  refine ⟨len, fun A outer s H args us vs Q E room env0 bnd rv want => ?_⟩
  have vl := len _ _ _ _ _ want
  have KX : K.In s.heap := env0.mod.kin.keeps fun b o q => (env0.bs b o q).1
  have free : s.heap.NoLimit := env0.mod.nolimit.keeps fun b o q => (env0.bs b o q).1
  have kinds : ∀ y ∈ ps.zip us, (defScope st).names.lookup y.1 = some .local ∨ ((defScope st).names.lookup y.1 = some .cell ∧ ((cellsFrom (s.heap.objs.size + 1) (defScope st).names []).lookup y.1).isSome = true) := by
    rintro ⟨n, v⟩ hy
    rcases S.par n (List.of_mem_zip hy).1 with z | z
    · exact .inl z
    · exact .inr ⟨z, PySem.W.cellsFrom_some _ _ _ (.inl z)⟩
  refine codeAny_call_function room.depth (KX _ _ look) rfl S.co S.gen rfl (PySem.W.codeRec_of KX code) (bnd _ _ _ _ ?_)
  refine wpAny_newFunctionEnv_cells S.kind kinds fun env he s1 inn => ?_
  subst he
  refine ⟨free.keeps inn.toInCall.keep, codeAny_func ?_⟩
  obtain ⟨t, ht, q⟩ := body cdv A outer s H vs Q E (room.deeper _) want
  have J : Inv (cxOf CX0 P w K mg base N qual (defScope st) f cdv A outer s H E) [] (start N vs) H s1 := inv_start S room.hd env0 vl rv inn
  refine wpAny_mono (ht.nox.run [] s1 (start N vs) H _ J q) (fun fl s2 out => ?_) fun e s2 out => out
  have fin : ∀ {τ : L2.St} {G : Hp} {v : V} {u : Value}, Inv (cxOf CX0 P w K mg base N qual (defScope st) f cdv A outer s H E) [] τ G s2 → RelV v u → Q v G → CE outer P w H s Q u s2 :=
    fun {τ G v u} I2 r q2 => ⟨v, G, I2.os, I2.bare, I2.base, I2.hok, r, q2⟩
  cases fl with
  | ret u =>
    obtain ⟨v, τ, G, I2, r, q2⟩ := out
    exact fin I2 r q2
  | next =>
    obtain ⟨τ, G, I2, q2⟩ := out
    exact fin (v := V.non) (u := Value.none) I2 rfl q2
  | brk =>
    obtain ⟨_, _, _, z⟩ := out
    exact z.elim
  | cont =>
    obtain ⟨_, _, _, z⟩ := out
    exact z.elim
def wIterT (K : PySem.W.Frag) (n : Nat) : List V → Hp → VK → Prop := fun xs H Q => ∃ (l : Addr) (zs : List V), xs = [.ref l] ∧ SqT K H l zs ∧ ∀ it, H it = none → n ≤ it → Q (.ref it) (upd H it (TIt l it))
theorem c_iterT {X : Cx} : CallR X (.builtin "iter") (wIterT X.K X.s_0.heap.objs.size) := by
  rintro pn s σ H xs us Q I r ⟨l, zs, rfl, hq, q⟩
  (obtain ⟨u, rfl, ru⟩ := vals1 r)
  cases ru
  obtain ⟨its, rv, pl, hz⟩ := I.tuple hq
  (refine Calls.call_function_entry (by decide +kernel) (by decide +kernel) PySem.W.kdk_entry_iter (PySem.W.kdk_args_iter _) ?_)
  unfold Builtin.«iter»
  (refine wpAny_bind (m := someArgs "iter" 1 2 _) (wpAny_of_eq (a := [Value.ref l]) (by first | rfl | kernel_rfl!) ?_))
  change wpAny _ _ (pyIter (.ref l) >>= _) _ _ _
  refine wpAny_bind (wpAny_pyIter_tuple (show s.heap.IsTuple l its.toArray from pl) ?_)
  (refine wpAny_pure ⟨_, rfl, ?_⟩)
  exact ⟨.ref s.heap.objs.size, _, I.laid (t' := s.toks) (fun b u e => Heap.get?_push_of_some _ e) (Nat.le_refl _) (tit_ok ⟨_, Heap.get?_push_size _ rfl, rfl, rfl⟩), rfl, q _ (I.hok.fresh (Nat.le_refl _)) I.sz⟩
def iOwn (K : PySem.W.Frag) (C : Addr) (sp : Nat → Sp) (ta : TE) : TI := fun σ H R => ta σ H fun x G => ∃ a dx fs, x = .ref a ∧ G a = some (.ins C dx fs) ∧
  ∀ n, sp n [.ref a] G (fun v G2 => ∃ it t, v = .ref it ∧ n ≤ it ∧ G it = none ∧ G2 = upd G it (TIt t it) ∧ R (Itt K t) G) E0
section
variable {X : Cx} {k : Nat} {C f : Addr} {fd : FuncData} {ps : List Str} {sp : Nat → Sp} {e tg : Expr} {ta : TE}
theorem pi_own (he : PE X e ta) (M : Meth X.K C "__iter__" f) (F : FnS X.prog X.w X.K X.mg X.base k f fd ps sp) (room : Room k X.A) (bd : Binds X.K fd ps []) : PI X tg e (iOwn X.K C sp ta) := by
  refine ⟨fun pn s σ H R I h => ?_⟩
  refine thn (he.run pn s σ H _ I h) fun u s1 ⟨x, G, I1, rx, a, dx, fs, ex, ea, q0⟩ => ?_
  subst ex
  cases rx
  have q := q0 s1.heap.objs.size
  obtain ⟨ox, od, J⟩ := inst I1 ea
  obtain ⟨m', hF⟩ := I1.fr
  refine PySem.W.owit_iter hF I1.ok.mod.kin J M.at_ M.fn ?_
  have len := (F.len _ _ _ _ _ q)
  refine wpAny_call (codeAny_mono (F.run X.A X.stack s1 G ⟨[.ref a], []⟩ [.ref a] [.ref a] _ E0 room I1.env0 (bd s1 [.ref a] I1.kIn (by simpa using len)) (.cons rfl .nil) q) fun r s2 hr => ?_)
  cases r with
  | error er => exact hr.elim
  | ok fl =>
    cases fl with
    | ret u =>
      obtain ⟨v, G3, I3, rv, it, t, ev, young, fr, eG, hR⟩ := I1.after hr
      subst ev eG
      cases rv
      have hx : upd G it (TIt t it) it = some (TIt t it) := upd_same
      have st : s2.heap.IsTupleIter it t 0 := (I3.hok it _ hx).1
      have tyI : s2.TypeIs (.ref it) "tuple_iterator" := st.typeIs
      change PySem.W.OwitIt _ _ _ _ (.ref it) s2
      unfold PySem.W.OwitIt
      refine wpAny_specialOf (name := "__next__") tyI PySem.F.slot_tuple_iterator_next.lookup ?_
      have I4 := ItX.inv_drop I3 hx
      have gone : ItX.dropH (upd G it (TIt t it)) it = G := ItX.dropH_upd fr
      rw [gone] at I4
      refine ⟨it, [it], _, _, G, rfl, I4, turn_tuple t it, st, fun b hb => ?_, hR⟩
      have eb : b = it := by simpa using hb
      subst eb
      have z := ItX.inv_fp I3 hx (Nat.le_trans I1.sz young)
      rwa [gone] at z
    | next => exact False.elim hr
    | brk => exact False.elim hr
    | cont => exact False.elim hr
end
/-! max(xs, default=d), sorted(d, reverse=True), min and max of three -/
def maxL (d : Int) : List Int → Int
  | [] => d
  | n :: ns => ns.foldl max n
section
variable {X : Cx}
theorem alike_ints (ns : List Int) : PySem.W.AlikeAll (ns.map PyData.int) := by
  refine ⟨fun x hx y hy => ?_, fun x hx => ?_⟩
  · obtain ⟨i, _, rfl⟩ := List.mem_map.mp hx
    obtain ⟨j, _, rfl⟩ := List.mem_map.mp hy
    rfl
  · obtain ⟨i, _, rfl⟩ := List.mem_map.mp hx
    exact fun z => nomatch z
theorem depth_ints : ∀ ns : List Int, PyData.depthAll (ns.map PyData.int) ≤ 1
  | [] => by decide
  | n :: ns => by
    show max (PyData.int n).depth (PyData.depthAll (ns.map PyData.int)) ≤ 1
    exact Nat.max_le.mpr ⟨by show PyData.depth (.int n) ≤ 1; unfold PyData.depth; decide, depth_ints ns⟩
def wMaxD (K : PySem.W.Frag) : List V → List V → Hp → VK → Prop := fun vs zs H Q => ∃ (a : Addr) (ns : List Int) (d : Int), vs = [.ref a] ∧ zs = [.int d] ∧ SqL K H a (ns.map V.int) ∧ Q (.int (maxL d ns)) H
theorem c_maxD (hc : X.calm = true) (hu : X.A.units + 64 < cLine) : CallRK X (.builtin "max") ["default"] (wMaxD X.K) := by
  rintro pn s σ H vs zs us ws Q I r rz ⟨a, ns, d, rfl, rfl, hs, q⟩
  obtain rfl := Vals.ref1 r
  (obtain ⟨w1, rfl, e1⟩ := vals1 rz)
  obtain ⟨tk1, rfl⟩ := e1
  (obtain ⟨its, rv, hl, hz⟩ := I.list hs)
  have hi := rv.ints
  have hd := depth_ints ns
  refine PySem.W.max_list_default (I.ok.hd hc) hl.isList (xs := ns.map PyData.int) (as := []) (by simpa using hi.reads s.heap) (alike_ints ns) (by omega) (fun e h' tk kp => ?_) (fun y ys i v h' tk bs e e2 rd kp => ?_)
  · have en : ns = [] := by simpa using e
    subst en
    exact ⟨.int d, H, I.kept kp, ⟨_, rfl⟩, q⟩
  · cases ns with
    | nil => cases e
    | cons n ns =>
      rw [List.map_cons] at e
      cases e
      rw [PySem.W.maxD_ints] at rd
      cases rd
      exact ⟨.int _, H, I.kept kp, ⟨_, rfl⟩, q⟩
def wMin3 : List V → Hp → VK → Prop := fun xs H Q => ∃ i j k : Int, xs = [.int i, .int j, .int k] ∧ Q (.int (min i (min j k))) H
def wMax3 : List V → Hp → VK → Prop := fun xs H Q => ∃ i j k : Int, xs = [.int i, .int j, .int k] ∧ Q (.int (max i (max j k))) H
theorem vals3' {a b c : V} {us : List Value} (r : Vals [a, b, c] us) : ∃ x y z, us = [x, y, z] ∧ RelV a x ∧ RelV b y ∧ RelV c z := by
  cases r with
  | cons p r => cases r with
    | cons p2 r => cases r with
      | cons p3 r =>
        cases r
        exact ⟨_, _, _, rfl, p, p2, p3⟩
theorem c_min3 (hc : X.calm = true) : CallR X (.builtin "min") wMin3 := by
  rintro pn s σ H xs us Q I r ⟨i, j, k, rfl, q⟩
  obtain ⟨_, _, _, rfl, ⟨t1, rfl⟩, ⟨t2, rfl⟩, ⟨t3, rfl⟩⟩ := vals3' r
  refine PySem.min_three_ints (I.ok.hd hc) fun h' tk kp => ?_
  have e : (if j < i then (if k < j then Value.int k t3 else .int j t2) else (if k < i then .int k t3 else .int i t1)) = .int (min i (min j k)) (if j < i then (if k < j then t3 else t2) else (if k < i then t3 else t1)) := by
    split <;> split <;> (congr 1; omega)
  rw [e]
  exact ⟨.int _, H, I.kept kp, ⟨_, rfl⟩, q⟩
theorem c_max3 (hc : X.calm = true) : CallR X (.builtin "max") wMax3 := by
  rintro pn s σ H xs us Q I r ⟨i, j, k, rfl, q⟩
  obtain ⟨_, _, _, rfl, ⟨t1, rfl⟩, ⟨t2, rfl⟩, ⟨t3, rfl⟩⟩ := vals3' r
  refine PySem.max_three_ints (I.ok.hd hc) fun h' tk kp => ?_
  have e : (if j > i then (if k > j then Value.int k t3 else .int j t2) else (if k > i then .int k t3 else .int i t1)) = .int (max i (max j k)) (if j > i then (if k > j then t3 else t2) else (if k > i then t3 else t1)) := by
    split <;> split <;> (congr 1; omega)
  rw [e]
  exact ⟨.int _, H, I.kept kp, ⟨_, rfl⟩, q⟩
def wSortDR : List V → List V → Hp → VK → Prop := fun vs zs H Q => ∃ (a : Addr) (kvs : List (Key × V)) (ks : List Int), vs = [.ref a] ∧ zs = [.bl true] ∧ Rd H a (.dK kvs) ∧ kvs.map (·.1) = ks.map Sum.inl ∧
  ∀ (ys : List Int) (p : Addr), ys.Perm ks → ys.Pairwise (· ≥ ·) → H p = none → Q (.ref p) (upd H p (.lst (ys.map V.int)))
theorem c_sortDR (hc : X.calm = true) : CallRK X (.builtin "sorted") ["reverse"] wSortDR := by
  rintro pn s σ H vs zs us ws Q I r rz ⟨a, kvs, ks, rfl, rfl, hd, hk, q⟩
  obtain rfl := Vals.ref1 r
  (obtain ⟨w1, rfl, e1⟩ := vals1 rz)
  (obtain rfl : w1 = Value.bool true := e1)
  (obtain ⟨z, lo, vs, rel, dd⟩ := dk_rd I.hok hd)
  obtain ⟨ep, at_⟩ := dd.dictAt
  have keys : vs.map (·.1) = ks.map Sum.inl := rel.keys.symm.trans hk
  have same : vs.length = ks.length := by simpa using congrArg List.length keys
  have small : vs.length ≤ sizeLine := by rw [← rel.length]; exact z
  refine PyProof.Rows.call_function_entry_kw PyProof.Rows.kind_sorted PyProof.Rows.plain_sorted PyProof.Rows.entry_sorted (PyProof.Rows.args_sorted_rev _ _) ?_
  unfold Builtin.«sorted»
  (refine wpAny_bind (m := checkCount "sorted" 1 1 _) (wpAny_pure ?_))
  refine wpAny_bind (PySem.W.kdu_collect (A := X.A.in1) (PySem.W.kdl_dict (knd := mixKind X.prog X.w) (kvs := vs) (ep := ep) lo) (I.ok.hd hc) at_ small fun h' tk acc kp hacc => ?_)
  have alen : acc.toList.length = ks.length := by rw [Array.length_toList, hacc.1, same]
  have arei : IntsAre acc.toList ks := ints_each alen fun j v e => by
    obtain ⟨kk, x, e1, e2⟩ := hacc.2 j v (by rw [← Array.getElem?_toList]; exact e)
    have e3 : (vs.map (·.1))[j]? = some kk := by rw [List.getElem?_map, e1]; rfl
    rw [keys, List.getElem?_map] at e3
    cases e4 : ks[j]? with
    | none =>
      rw [e4] at e3
      exact nomatch e3
    | some y =>
      rw [e4] at e3
      have e5 : Sum.inl y = kk := Option.some.inj e3
      subst e5
      rcases keyIs_shape (show keyIs (Sum.inl y) v = true from e2) with ⟨i, t, e6, e7⟩ | ⟨i, t, e6, e7⟩
      · cases e6
        exact ⟨y, t, rfl, e7⟩
      · cases e6
  have I1 : Inv X pn σ H { s with heap := h', toks := tk } := I.kept kp
  have fits : acc.toList.length ≤ sizeLine := by rw [alen, ← same]; exact small
  refine wpAny_bind (wpAny_newList ?_ fits)
  have there : (h'.push (seqObj "list" acc.toList.toArray 0)).get? h'.objs.size = some (seqObj "list" acc.toList.toArray 0) := Heap.get?_push_size _ rfl
  change wpAny _ _ _ _ _ { s with heap := h'.push (seqObj "list" acc.toList.toArray 0), toks := tk }
  refine wpAny_bind (wpAny_holding (PyProof.Rows.wpAny_call_entry_kw PyProof.Rows.slot_list_sort ⟨_, there, rfl⟩ PyProof.Rows.entry_list_sort ?_ (PyProof.Rows.args_list_sort_rev _ _)))
  refine SrtR.list_sort_ordR (s := { s with heap := h'.push (seqObj "list" acc.toList.toArray 0), toks := tk }) (b := true) SrtO.swo_int there fits (fun h2 => SrtO.ints_sortable arei h2) fun out o1 o2 => ⟨_, rfl, ?_⟩
  obtain ⟨ys, y1, y2, y3⟩ := SrtR.ints_outR (b := true) arei o1 o2
  obtain ⟨e', he'⟩ := PyProof.Rows.sortedHeap_at (vs := acc.toList) (out := out.toArray.reverse) there
  have hlen : (ys.map V.int).length ≤ sizeLine := by rw [List.length_map, y2.length_eq, ← alen]; exact fits
  have ok2 : ObjOk X.prog X.w (upd H h'.objs.size (.lst (ys.map V.int))) (PyProof.Rows.sortedHeap (h'.push (seqObj "list" acc.toList.toArray 0)) h'.objs.size acc.toList out.toArray.reverse) h'.objs.size (.lst (ys.map V.int)) :=
    ⟨hlen, out.toArray.reverse.toList, e', vals_of_ints y1, by rw [Array.toArray_toList]; exact he'⟩
  have got := q ys _ y2 y3 (I1.hok.fresh (Nat.le_refl _))
  refine wpAny_pure ⟨_, rfl, .ref h'.objs.size, _, I1.laid (t' := tk) (fun b u e => ?_) (Nat.le_refl _) ok2, rfl, got⟩
  have lt : b < h'.objs.size := Heap.lt_size e
  show (PyProof.Rows.sortedHeap _ _ _ _).get? b = some u
  rw [PyProof.Rows.sortedHeap_old (Nat.ne_of_lt lt) (by rw [size_push']; exact Nat.lt_succ_of_lt lt)]
  (exact Heap.get?_push_of_some _ e)
end
end OW
namespace OW
open PySem PySem.Spec PyProof.Rows L2
section
variable {X : Cx}
def wTupL (K : PySem.W.Frag) : List V → Hp → VK → Prop := fun xs H Q => ∃ (p : Addr) (ys : List V), xs = [.ref p] ∧ SqL K H p ys ∧ ∀ l, H l = none → Q (.ref l) (upd H l (.tup ys))
theorem c_tupL : CallR X (.type "tuple") (wTupL X.K) := fun pn s σ H xs us Q I r ⟨p, ys, e, h, q⟩ => call_tuple_of pn s σ H xs us Q I r ⟨p, ys, e, .inl ⟨h, q⟩⟩
def wLstL (K : PySem.W.Frag) : List V → Hp → VK → Prop := fun xs H Q => ∃ (p : Addr) (ys : List V), xs = [.ref p] ∧ SqL K H p ys ∧ ∀ l, H l = none → Q (.ref l) (upd H l (.lst ys))
theorem c_lstL : CallR X (.type "list") (wLstL X.K) := fun pn s σ H xs us Q I r ⟨p, ys, e, h, q⟩ => call_list_of pn s σ H xs us Q I r ⟨p, ys, e, .inl h, q⟩
def wLstT (K : PySem.W.Frag) : List V → Hp → VK → Prop := fun xs H Q => ∃ (p : Addr) (ys : List V), xs = [.ref p] ∧ SqT K H p ys ∧ ∀ l, H l = none → Q (.ref l) (upd H l (.lst ys))
theorem c_lstT : CallR X (.type "list") (wLstT X.K) := fun pn s σ H xs us Q I r ⟨p, ys, e, h, q⟩ => call_list_of pn s σ H xs us Q I r ⟨p, ys, e, .inr h, q⟩
end
end OW
namespace OW
open PySem PySem.Spec PyProof.Rows L2
def wIns : V → List V → Hp → VK → Prop := fun x vs H Q => ∃ (l : Addr) (xs : List V) (i : Int) (y : V), x = .ref l ∧ vs = [.int i, y] ∧ H l = some (.lst xs) ∧ xs.length < sizeLine ∧ 0 ≤ i ∧ i < 2 ^ 63 ∧ Q .non (upd H l (.lst (xs.take i.toNat ++ [y] ++ xs.drop i.toNat)))
theorem m_ins {X : Cx} : MtR X "list.insert" wIns := mt_insert
end OW
namespace OW
open PySem PySem.Spec PyProof.Rows L2
/-- a op b op' c op'' d as a test -/
def tChain3 (r r' r'' : R2) (ta tb tc td : TE) : TT := fun σ H QB => ta σ H fun x G => tb σ G fun y G1 => r x y G1 fun z G2 => ∃ k, z = .bl k ∧
  (if k = true then tc σ G2 fun u G3 => r' y u G3 fun z2 G4 => ∃ k2, z2 = .bl k2 ∧
    (if k2 = true then td σ G4 fun v G5 => r'' u v G5 fun z3 G6 => ∃ k3, z3 = .bl k3 ∧ QB k3 G6 else QB false G4) else QB false G2)
section
variable {X : Cx} {a b c d : Expr} {ta tb tc td : TE} {pos : Pos} {op op' op'' : CmpOp} {r r' r'' : R2}
theorem pt_chain3 (h1 : OpR X (compareOp op) r) (h2 : OpR X (compareOp op') r') (h3 : OpR X (compareOp op'') r'') (ha : PE X a ta) (hb : PE X b tb) (hc : PE X c tc) (hd : PE X d td)
    (hm : lastMarks [op, op', op''] [b, c, d] = false := by with_unfolding_all rfl) : PT X (.Compare a [op, op', op''] [b, c, d] pos) (tChain3 r r' r'' ta tb tc td) := by
  refine ⟨fun pn s σ H Q I h => ?_⟩
  refine isTrue_chain (thn (ha.run pn s σ H _ I h) fun v s1 ⟨x, G1, I1, r1, q1⟩ => test_link (thn (hb.run pn s1 σ G1 _ I1 q1) fun u s2 ⟨y, G2, I2, r2, q2⟩ =>
    thn (h1 pn s2 σ G2 x y v u _ I2 r1 r2 q2) fun e1 s3 ⟨z, G3, I3, r3, k, e, q3⟩ => ?_)) hm
  subst e
  cases r3
  refine wpAny_truthy_bool ?_
  cases k with
  | false => exact ite_ff ⟨G3, I3, q3⟩
  | true =>
    refine ite_tt (test_link (thn (hc.run pn s3 σ G3 _ I3 q3) fun v2 s4 ⟨y2, G4, I4, r4, q4⟩ => thn (h2 pn s4 σ G4 y y2 u v2 _ I4 r2 r4 q4) fun e2 s5 ⟨z2, G5, I5, r5, k2, e3, q5⟩ => ?_))
    subst e3
    cases r5
    refine wpAny_truthy_bool ?_
    cases k2 with
    | false => exact ite_ff ⟨G5, I5, q5⟩
    | true =>
      refine ite_tt (test_last (thn (hd.run pn s5 σ G5 _ I5 q5) fun v3 s6 ⟨y3, G6, I6, r6, q6⟩ => thn (h3 pn s6 σ G6 y2 y3 v2 v3 _ I6 r4 r6 q6) fun e4 s7 ⟨z3, G7, I7, r7, k3, e5, q7⟩ => ?_))
      subst e5
      cases r7
      exact wpAny_truthy_bool ⟨G7, I7, q7⟩
end
end OW
namespace OW
open PySem PySem.Spec PyProof.Rows L2
def wIsN : R2 := fun x y H Q => y = .non ∧ Q (.bl (decide (x = .non))) H
def wNotN : R2 := fun x y H Q => y = .non ∧ Q (.bl (!decide (x = .non))) H
theorem o_isN {X : Cx} : OpR X (compareOp .Is) wIsN := op_isN
theorem o_notN {X : Cx} : OpR X (compareOp .IsNot) wNotN := op_notN
end OW
namespace OW
open PySem PySem.Spec PyProof.Rows L2
theorem pg_tupK {X : Cx} {K : PySem.W.Frag} {es : List Expr} {k : Nat} {t : TGs} {n : Nat} {pos : Pos} (eK : X.K = K) (hc : X.calm = true) (h : PGs X es t)
    (hn : (assignEach es X.env).length = n := by rfl) (hst : (assignEach es X.env).findIdx? (·.1) = none := by rfl) : PG X (.Tuple es k pos) (gTup K n t) := by
  subst eK
  exact pg_tup hc h hn hst
end OW
namespace OW
open PySem PySem.Spec PyProof.Rows L2
theorem fnR_of {P : Program} {w : World} {K : PySem.W.Frag} {mg : Str → Option Value} {base : Heap} {CX : CXT} {k : Nat} {f : Addr} {fd : FuncData} {ps : List Str} {sp : Sp} (F : FnOk P w K mg base CX k f fd ps sp) (bd : Binds K fd ps []) : FnR P w K mg base CX k f sp := by
  intro A outer s H us vs Q E room e0 r h
  have KX : K.In s.heap := e0.mod.kin.keeps fun b o q => (e0.bs b o q).1
  have len : us.length = ps.length := r.length.symm.trans (F.len _ _ _ _ h)
  have z := bd s us KX (by simpa using len)
  exact F.run A outer s H ⟨us, []⟩ us vs Q E room e0 (by simpa using z) r h
/-- C(e, ..), C a local name -/
def tMakeL (i : Nat) (C : Addr) (sp : Sp) (E : XK) (t : TA) : TE := fun σ H Q => σ[i]? = some (some (.ref C)) ∧ tMake C sp [] E t σ H Q
section
variable {X : Cx} {CX : CXT} {k : Nat} {C f : Addr} {fd : FuncData} {ps : List Str} {sp : Sp} {E : XK} {K : PySem.W.Frag}
theorem pe_makeL {i : Nat} {x : Str} {p pos : Pos} {e : Expr} {es : List Expr} {t : TA} (hN : X.N[i]? = some x) (hv : Vis X.env.scope x) (M : Mk X.K C f) (F : FnOk X.prog X.w X.K X.mg X.base CX k f fd ps sp) (room : Room (k + 1) X.A) (bd : Binds X.K fd ps []) (px : Passes CX X E) (args : PA X (e :: es) t)
    (nd : (x == ("__debug__" : Str)) = false := by decide) (nc : (x == ("__classdict__" : Str)) = false := by decide) (h1 : starEach (e :: es) X.env = (false, eval e X.env) :: starEach es X.env := by rfl) (h2 : (backTo pos (starEach es X.env)).any (·.1) = false := by rfl) :
    PE X (.Call (.Name x p) (e :: es) [] pos) (tMakeL i C sp E t) := by
  refine ⟨fun pn s σ G Q I h => ?_⟩
  obtain ⟨hs, h⟩ := h
  refine wpAny_Call_Name_kw (thn ((pe_var (pos := p) (i := i) hN hv nd nc).run pn s σ G (fun v G1 => v = .ref C ∧ G1 = G) I ⟨.ref C, hs, rfl, rfl⟩) fun u s1 ⟨v, G1, I1, rv, ev, eG⟩ => ?_)
  subst ev
  rw [eG] at I1
  cases rv
  refine PySem.W.callWith_K (h₀ := X.base) I.ok.mod.kin M.kp (thn (args.run pos pn s1 σ G _ I1 h) fun us s2 ⟨vs, G2, I2, r, q⟩ => ⟨I2.kIn, ?_⟩) h1 h2
  exact run_make M F room bd .nil px I2 r q
theorem pe_fldK {e : Expr} {f : Str} {pos : Pos} {ta : TE} (eK : X.K = K) (he : PE X e ta) (hb : attributeBase e f X.env (eval e X.env) = eval e X.env) : PE X (.Attribute e f pos) (tFld K ta f) := by
  subst eK
  exact pe_fld he hb
theorem pi_tupK {tg l : Expr} {tl : TE} (eK : X.K = K) (hl : PE X l tl) : PI X tg l (iTup K tl) := by
  subst eK
  exact pi_tup hl
theorem pi_listK {tg l : Expr} {tl : TE} (eK : X.K = K) (hl : PE X l tl) : PI X tg l (iList K tl) := by
  subst eK
  exact pi_list hl
theorem ix_listK (eK : X.K = K) : IxR X (rIxL K) := by
  subst eK
  exact ix_list
theorem ix_tupK (eK : X.K = K) : IxR X (rIxT K) := by
  subst eK
  exact ix_tup
theorem c_lenK (eK : X.K = K) : CallR X (.builtin "len") (wLen K) := by
  subst eK
  exact c_len
end
end OW

namespace R
open PySem PySem.Spec PyProof.Rows L2
section
variable {σ : L2.St} {H : Hp} {Q : VK} {QB : Bool → Hp → Prop} {QL : List V → Hp → Prop} {QS : L2.St → Hp → Prop} {v x y : V} {ta tb tc te : TE} {r : R2} {i j : Int} {b : Bool} {D : Ends} {t u : TS} {c c2 : TT} {g : TG} {K : PySem.W.Frag} {p : Addr} {xs : List V}
theorem cst (q : Q v H) : tC v σ H Q := q
theorem op (h : ta σ H fun x H1 => tb σ H1 fun y H2 => r x y H2 Q) : tOp r ta tb σ H Q := h
theorem un {r : V → Hp → VK → Prop} (h : ta σ H fun x H1 => r x H1 Q) : tUn r ta σ H Q := h
theorem i0 {g : Int → Int → V} (q : Q (g i j) H) : rI0 g (.int i) (.int j) H Q := ⟨i, j, rfl, rfl, q⟩
theorem i1 {C : Int → Int → Prop} {g : Int → Int → V} (hc : C i j) (q : Q (g i j) H) : rI C g (.int i) (.int j) H Q := ⟨i, j, rfl, rfl, hc, q⟩
theorem uI {g : Int → V} (q : Q (g i) H) : rU g (.int i) H Q := ⟨i, rfl, q⟩
theorem eqII (q : Q (.bl (decide (i = j))) H) : rEq (.int i) (.int j) H Q := ⟨rfl, by rw [show decide (V.int i = V.int j) = decide (i = j) by simp]; exact q⟩
theorem neII (q : Q (.bl (!decide (i = j))) H) : rNe (.int i) (.int j) H Q := ⟨rfl, by rw [show decide (V.int i = V.int j) = decide (i = j) by simp]; exact q⟩
theorem eqBB {d : Bool} (q : Q (.bl (b == d)) H) : rEq (.bl b) (.bl d) H Q := ⟨rfl, by rw [show decide (V.bl b = V.bl d) = (b == d) by cases b <;> cases d <;> rfl]; exact q⟩
theorem neBB {d : Bool} (q : Q (.bl (b != d)) H) : rNe (.bl b) (.bl d) H Q := ⟨rfl, by rw [show (!decide (V.bl b = V.bl d)) = (b != d) by cases b <;> cases d <;> rfl]; exact q⟩
theorem eqSS {s d : Str} (q : Q (.bl (decide (s = d))) H) : rEq (.str s) (.str d) H Q := ⟨rfl, by rw [show decide (V.str s = V.str d) = decide (s = d) by simp]; exact q⟩
theorem neSS {s d : Str} (q : Q (.bl (!decide (s = d))) H) : rNe (.str s) (.str d) H Q := ⟨rfl, by rw [show decide (V.str s = V.str d) = decide (s = d) by simp]; exact q⟩
theorem eqS (hs : scal x y = true) (q : Q (.bl (decide (x = y))) H) : rEq x y H Q := ⟨hs, q⟩
theorem neS (hs : scal x y = true) (q : Q (.bl (!decide (x = y))) H) : rNe x y H Q := ⟨hs, q⟩
theorem seq (h : t { D with nx := u D } σ H) : tSeq t u D σ H := h
theorem nxt (h : D.nx σ H) : tNext D σ H := h
theorem brk (h : D.bk σ H) : tBreak D σ H := h
theorem cnt (h : D.ct σ H) : tCont D σ H := h
theorem asg (h : te σ H fun x H1 => g x σ H1 D.nx) : tAsg te g D σ H := h
theorem drop (h : te σ H fun _ H1 => D.nx σ H1) : tDrop te D σ H := h
theorem ret (h : te σ H D.rt) : tRet te D σ H := h
theorem retN (h : D.rt .non H) : tRetN D σ H := h
theorem ifS (h : c σ H fun b H1 => if b = true then t D σ H1 else u D σ H1) : tIfS c t u D σ H := h
theorem ifE (h : c σ H fun b H1 => if b = true then ta σ H1 Q else tb σ H1 Q) : tIf c ta tb σ H Q := h
theorem test (h : te σ H fun x H' => ∃ k, x = .bl k ∧ QB k H') : tTest te σ H QB := h
theorem chain3 {td : TE} {r r' r'' : R2} (h : ta σ H fun x G => tb σ G fun y G1 => r x y G1 fun z G2 => ∃ k, z = .bl k ∧
  (if k = true then tc σ G2 fun u G3 => r' y u G3 fun z2 G4 => ∃ k2, z2 = .bl k2 ∧
    (if k2 = true then td σ G4 fun v G5 => r'' u v G5 fun z3 G6 => ∃ k3, z3 = .bl k3 ∧ QB k3 G6 else QB false G4) else QB false G2)) : OW.tChain3 r r' r'' ta tb tc td σ H QB := h
theorem nbn : ¬ (V.bl b = V.non) := fun z => nomatch z
theorem nin : ¬ (V.int i = V.non) := fun z => nomatch z
theorem nsn {s : Str} : ¬ (V.str s = V.non) := fun z => nomatch z
theorem nrn : ¬ (V.ref p = V.non) := fun z => nomatch z
theorem isN2 (q : Q (.bl (decide (x = .non))) H) : OW.wIsN x .non H Q := ⟨rfl, q⟩
theorem notN2 (q : Q (.bl (!decide (x = .non))) H) : OW.wNotN x .non H Q := ⟨rfl, q⟩
theorem gw {n : Nat} {vs : List Nat} {τ : L2.St} (e : wipe σ vs = τ) (q : gName n v τ H QS) : gName n v (wipe σ vs) H QS := by rw [e]; exact q
theorem star {t : TA} (h : te σ H fun x H1 => ∃ p xs, x = V.ref p ∧ (SqT K H1 p xs ∨ SqL K H1 p xs) ∧ t σ H1 fun ys H2 => QL (xs ++ ys) H2) : StX.tStar K te t σ H QL := h
theorem starx {A : List V → Prop} (h : SqT K H p xs) (q : A xs) : ∃ p' xs', V.ref p = V.ref p' ∧ (SqT K H p' xs' ∨ SqL K H p' xs') ∧ A xs' := ⟨p, xs, rfl, .inl h, q⟩
theorem starl {A : List V → Prop} (h : SqL K H p xs) (q : A xs) : ∃ p' xs', V.ref p = V.ref p' ∧ (SqT K H p' xs' ∨ SqL K H p' xs') ∧ A xs' := ⟨p, xs, rfl, .inr h, q⟩
theorem makeL {i : Nat} {C : Addr} {sp : Sp} {E : XK} {t : TA} (h : σ[i]? = some (some (.ref C))) (q : tMake C sp [] E t σ H Q) : OW.tMakeL i C sp E t σ H Q := ⟨h, q⟩
theorem cmeth {C : Addr} {sp : Sp} {E : XK} {t : TA} (h : ta σ H fun x H1 => x = .ref C ∧ t σ H1 fun vs H2 => sp (.ref C :: vs) H2 Q E) : ClX.tCMeth C sp E ta t σ H Q := h
theorem eqI {A : Prop} (q : A) : x = x ∧ A := ⟨rfl, q⟩
/-- the inner walk of a comprehension with two for, over a tuple -/
theorem in_tup {a : Addr} {g1 : TG} {tt1 : TT} {τ : L2.St} {C3 : L2.St → Prop} {D : Addr} {Nx : Hp → Prop} (Pv : Nat → Hp → Prop) (h0 : Pv 0 H) (hl : ∀ i H, i ≤ xs.length → Pv i H → SqT K H a xs)
    (hs : ∀ i x H, xs[i]? = some x → Pv i H → g1 x τ H fun σ3 H5 => C3 σ3 ∧ tt1 σ3 H5 fun b H6 =>
        if b = true then te σ3 H6 fun y H7 => ∃ acc, H7 D = some (.lst acc) ∧ acc.length < sizeLine ∧ Pv (i + 1) (upd H7 D (.lst (acc ++ [y]))) else Pv (i + 1) H6) (hd : ∀ H, Pv xs.length H → Nx H) :
    ∃ W1 : Nat → Nat → Hp → Prop, (∃ m, W1 0 m H) ∧ ∀ j k H, W1 j k H →
      ((Itt K a).stop j H ∧ Nx H) ∨ ((Itt K a).go j H ∧ ∃ Nx1 : Hp → Prop, (∀ H', Nx1 H' → ∃ k', k' < k ∧ W1 (j + 1) k' H') ∧ ∀ x H', (Itt K a).yld j H x H' → g1 x τ H' fun σ3 H5 => C3 σ3 ∧ tt1 σ3 H5 fun b H6 =>
        if b = true then te σ3 H6 fun y H7 => ∃ acc, H7 D = some (.lst acc) ∧ acc.length < sizeLine ∧ Nx1 (upd H7 D (.lst (acc ++ [y]))) else Nx1 H6) := by
  refine ⟨fun j k H => k = xs.length - j ∧ j ≤ xs.length ∧ Pv j H, ⟨xs.length, by simp, Nat.zero_le _, h0⟩, ?_⟩
  rintro j k H ⟨rfl, hj, p⟩
  have q := hl j H hj p
  by_cases lt : j < xs.length
  · refine .inr ⟨⟨xs, xs[j], q, List.getElem?_eq_getElem lt⟩, Pv (j + 1), fun H' p' => ⟨xs.length - (j + 1), by omega, rfl, lt, p'⟩, fun x H' y => ?_⟩
    obtain ⟨e, y⟩ := y
    subst e
    exact hs j x _ (y xs q) p
  · have e : j = xs.length := by omega
    subst e
    (exact .inl ⟨⟨xs, q, Nat.le_refl _⟩, hd H p⟩)
/-- the outer walk over a tuple -/
theorem out_tup {a : Addr} {tt : TT} {vs : List Nat} {D : Addr} {Qd : Hp → Prop} {body : L2.St → Hp → (Hp → Prop) → Prop} (Pv : Nat → Hp → Prop) (h0 : Pv 0 (upd H D (.lst []))) (hl : ∀ i H, i ≤ xs.length → Pv i H → SqT K H a xs)
    (hs : ∀ i x H, xs[i]? = some x → Pv i H → g x (wipe σ vs) H fun σ2 H2 => wipe σ2 vs = wipe σ vs ∧ tt σ2 H2 fun b H3 => if b = true then body σ2 H3 (Pv (i + 1)) else Pv (i + 1) H3) (hd : ∀ H, Pv xs.length H → Qd H) :
    ∃ W : Nat → Nat → Hp → Prop, (∃ m, W 0 m (upd H D (.lst []))) ∧ ∀ i m H, W i m H →
      ((Itt K a).stop i H ∧ Qd H) ∨ ((Itt K a).go i H ∧ ∃ Nx : Hp → Prop, (∀ H', Nx H' → ∃ m', m' < m ∧ W (i + 1) m' H') ∧ ∀ x H', (Itt K a).yld i H x H' → g x (wipe σ vs) H' fun σ2 H2 => wipe σ2 vs = wipe σ vs ∧ tt σ2 H2 fun b H3 => if b = true then body σ2 H3 Nx else Nx H3) := by
  refine ⟨fun j k H => k = xs.length - j ∧ j ≤ xs.length ∧ Pv j H, ⟨xs.length, by simp, Nat.zero_le _, h0⟩, ?_⟩
  rintro j k H ⟨rfl, hj, p⟩
  have q := hl j H hj p
  by_cases lt : j < xs.length
  · refine .inr ⟨⟨xs, xs[j], q, List.getElem?_eq_getElem lt⟩, Pv (j + 1), fun H' p' => ⟨xs.length - (j + 1), by omega, rfl, lt, p'⟩, fun x H' y => ?_⟩
    obtain ⟨e, y⟩ := y
    subst e
    exact hs j x _ (y xs q) p
  · have e : j = xs.length := by omega
    subst e
    (exact .inl ⟨⟨xs, q, Nat.le_refl _⟩, hd H p⟩)
theorem all {bs : List Bool} (h : SqL K H p (bs.map V.bl)) (q : Q (.bl (bs.all id)) H) : rAll K [.ref p] H Q := ⟨p, bs, rfl, h, q⟩
theorem eqD {d e : PyData} (h1 : Dp K H x d) (h2 : Dp K H y e) (s1 : SeqAt.shaped d = true) (s2 : SeqAt.shaped e = true) (q : Q (.bl (PyData.eqv d e)) H) : rEqD K x y H Q := ⟨d, e, h1, h2, s1, s2, q⟩
theorem callS {sp : Sp} {E : L2.St → XK} {t : TA} (h : t σ H fun vs H1 => sp vs H1 Q (E σ)) : tCallS sp E t σ H Q := h
theorem slc {r : V → Option Int → Option Int → Hp → VK → Prop} {tl th : TO} (h : te σ H fun x H1 => tl σ H1 fun l H2 => th σ H2 fun u H3 => r x l u H3 Q) : tSl r te tl th σ H Q := h
theorem nopart {QO : Option Int → Hp → Prop} (h : QO none H) : tNoPart σ H QO := h
theorem part {QO : Option Int → Hp → Prop} (h : te σ H fun x H1 => ∃ i, x = .int i ∧ QO (some i) H1) : tPart te σ H QO := h
theorem partx {A : Int → Prop} (q : A i) : ∃ j, V.int i = .int j ∧ A j := ⟨i, rfl, q⟩
theorem sll {lo hi : Option Int} (h : SqL K H p xs) (q : ∀ r, H r = none → Q (.ref r) (upd H r (.lst (cutV xs lo hi)))) : rSlL K (.ref p) lo hi H Q := ⟨p, xs, rfl, h, q⟩
theorem tcv {f : Str} (h : ta σ H fun x H1 => ∃ C mc v u, x = .ref C ∧ ClX.CRead K C mc ∧ ClX.CVal K C mc f v u ∧ Q v H1) : ClX.tCVal K ta f σ H Q := h
theorem cvx {f : Str} {C : Addr} {mc : Value} {A : V → Prop} (hr : ClX.CRead K C mc) (hk : ∃ u, PySem.W.findCls K (.ref C) mc f = some (.val u) ∧ RelV v u) (q : A v) : ∃ C' mc v u, V.ref C = .ref C' ∧ ClX.CRead K C' mc ∧ ClX.CVal K C' mc f v u ∧ A v := let ⟨u, h1, h2⟩ := hk; ⟨C, mc, v, u, rfl, hr, ⟨h1, h2⟩, q⟩
theorem prop {C : Addr} {sp : Sp} {dvs : List V} {E : XK} (h : ta σ H fun x H1 => ∃ a dx fs, x = .ref a ∧ H1 a = some (.ins C dx fs) ∧ sp (.ref a :: dvs) H1 Q E) : tProp C sp dvs E ta σ H Q := h
theorem propx {C a dx : Addr} {fs : List (Str × V)} {A : Addr → Prop} (h : H a = some (.ins C dx fs)) (q : A a) : ∃ a' dx fs, V.ref a = .ref a' ∧ H a' = some (.ins C dx fs) ∧ A a' := ⟨a, dx, fs, rfl, h, q⟩
theorem dnew (h : ∀ p, H p = none → Q (.ref p) (upd H p (.dK []))) : tDNewK σ H Q := h
theorem dget (h : ta σ H fun x H1 => tb σ H1 fun y H2 => ∃ a v, x = .ref a ∧ DGet H2 a y (some v) ∧ Q v H2) : tDGet ta tb σ H Q := h
theorem dgetx {a : Addr} {kvs : List (Key × V)} {A : V → Prop} (h : H a = some (.dK kvs)) (e : valV kvs (Sum.inl i) = some v) (q : A v) : ∃ a' v', V.ref a = .ref a' ∧ DGet H a' (.int i) (some v') ∧ A v' := ⟨a, v, rfl, by rw [← e]; exact DGet.k (k := Sum.inl i) h, q⟩
theorem dget2 (h : ta σ H fun x H1 => ∃ a, x = .ref a ∧ IsD H1 a ∧ tb σ H1 fun y H2 => tc σ H2 fun z H3 => ∃ o, DGet H3 a y o ∧ Q (o.getD z) H3) : tDGet2 ta tb tc σ H Q := h
theorem dget2x {a : Addr} {kvs : List (Key × V)} {A : Addr → Prop} (h : H a = some (.dK kvs)) (q : A a) : ∃ a', V.ref a = .ref a' ∧ IsD H a' ∧ A a' := ⟨a, rfl, .inl ⟨kvs, .inl h⟩, q⟩
theorem dgeto {a : Addr} {kvs : List (Key × V)} {A : Option V → Prop} (h : H a = some (.dK kvs)) (q : A (valV kvs (Sum.inl i))) : ∃ o, DGet H a (.int i) o ∧ A o := ⟨_, DGet.k (k := Sum.inl i) h, q⟩
theorem dput (h : tc σ H fun v H1 => ta σ H1 fun x H2 => tb σ H2 fun y H3 => ∃ a H4, x = .ref a ∧ DPut H3 a y v H4 ∧ D.nx σ H4) : sDPut ta tb tc D σ H := h
theorem dputx {a : Addr} {kvs : List (Key × V)} {A : Hp → Prop} (h : H a = some (.dK kvs)) (hl : kvs.length < sizeLine) (q : A (upd H a (.dK (putK kvs (Sum.inl i) v)))) : ∃ a' H4, V.ref a = .ref a' ∧ DPut H a' (.int i) v H4 ∧ A H4 := ⟨a, _, rfl, DPut.k (k := Sum.inl i) h hl, q⟩
theorem revl (h : te σ H fun x H1 => ∃ a xs, x = .ref a ∧ SqL K H1 a xs ∧ ∀ p, H1 p = none → Q (.ref p) (upd H1 p (.lst xs.reverse))) : tRevL K te σ H Q := h
theorem revlx (h : SqL K H p xs) (q : ∀ r, H r = none → Q (.ref r) (upd H r (.lst xs.reverse))) : ∃ a xs, V.ref p = .ref a ∧ SqL K H a xs ∧ ∀ p, H p = none → Q (.ref p) (upd H p (.lst xs.reverse)) := ⟨p, xs, rfl, h, q⟩
theorem tupL (h : SqL K H p xs) (q : ∀ r, H r = none → Q (.ref r) (upd H r (.tup xs))) : OW.wTupL K [.ref p] H Q := ⟨p, xs, rfl, h, q⟩
theorem lstL (h : SqL K H p xs) (q : ∀ r, H r = none → Q (.ref r) (upd H r (.lst xs))) : OW.wLstL K [.ref p] H Q := ⟨p, xs, rfl, h, q⟩
theorem lstT (h : SqT K H p xs) (q : ∀ r, H r = none → Q (.ref r) (upd H r (.lst xs))) : OW.wLstT K [.ref p] H Q := ⟨p, xs, rfl, h, q⟩
theorem iterT {n : Nat} (h : SqT K H p xs) (q : ∀ it, H it = none → n ≤ it → Q (.ref it) (upd H it (OW.TIt p it))) : OW.wIterT K n [.ref p] H Q := ⟨p, xs, rfl, h, q⟩
theorem ckw {r : List V → List V → Hp → VK → Prop} {t tk : TA} (h : t σ H fun vs H1 => tk σ H1 fun zs H2 => r vs zs H2 Q) : tCKw r t tk σ H Q := h
theorem maxd {ns : List Int} (h : SqL K H p (ns.map V.int)) (q : Q (.int (OW.maxL i ns)) H) : OW.wMaxD K [.ref p] [.int i] H Q := ⟨p, ns, i, rfl, rfl, h, q⟩
theorem min3 {k : Int} (q : Q (.int (min i (min j k))) H) : OW.wMin3 [.int i, .int j, .int k] H Q := ⟨i, j, k, rfl, q⟩
theorem max3 {k : Int} (q : Q (.int (max i (max j k))) H) : OW.wMax3 [.int i, .int j, .int k] H Q := ⟨i, j, k, rfl, q⟩
theorem ilst {tl : TE} {R : It → Hp → Prop} (h : tl σ H fun x H1 => ∃ a, x = .ref a ∧ (∃ xs, SqL K H1 a xs) ∧ R (Itl K a) H1) : iList K tl σ H R := h
theorem ilstx {A : Addr → Prop} (h : SqL K H p xs) (q : A p) : ∃ a, V.ref p = .ref a ∧ (∃ xs, SqL K H a xs) ∧ A a := ⟨p, rfl, ⟨xs, h⟩, q⟩
theorem itup {tl : TE} {R : It → Hp → Prop} (h : tl σ H fun x H1 => ∃ a, x = .ref a ∧ (∃ xs, SqT K H1 a xs) ∧ R (Itt K a) H1) : iTup K tl σ H R := h
theorem itupx {A : Addr → Prop} (h : SqT K H p xs) (q : A p) : ∃ a, V.ref p = .ref a ∧ (∃ xs, SqT K H a xs) ∧ A a := ⟨p, rfl, ⟨xs, h⟩, q⟩
theorem iown {C : Addr} {sp : Nat → Sp} {R : It → Hp → Prop} (h : ta σ H fun x G => ∃ a dx fs, x = .ref a ∧ G a = some (.ins C dx fs) ∧
  ∀ n, sp n [.ref a] G (fun v G2 => ∃ it t, v = .ref it ∧ n ≤ it ∧ G it = none ∧ G2 = upd G it (OW.TIt t it) ∧ R (Itt K t) G) E0) : OW.iOwn K C sp ta σ H R := h
theorem gtup {n : Nat} {t : TGs} (h : SqT K H p xs) (e : xs.length = n) (q : t xs σ H QS) : gTup K n t (.ref p) σ H QS := ⟨p, xs, rfl, h, e, q⟩
theorem gcons {t : TG} {u : TGs} (h : t v σ H fun σ' H' => u xs σ' H' QS) : gCons t u (v :: xs) σ H QS := ⟨v, xs, rfl, h⟩
theorem gnil (h : QS σ H) : gNil [] σ H QS := ⟨rfl, h⟩
theorem nott (h : ta σ H fun x H1 => ∃ k, TruV K x H1 k ∧ Q (.bl (!k)) H1) : tNotT K ta σ H Q := h
theorem truL {A : Bool → Prop} (h : SqL K H p xs) (q : A (!xs.isEmpty)) : ∃ k, TruV K (.ref p) H k ∧ A k := ⟨_, .inl ⟨xs, h, rfl⟩, q⟩
theorem bm {T : String} {r : V → List V → Hp → VK → Prop} {t : TA} (h : ta σ H fun x H1 => tyV K T x H1 ∧ t σ H1 fun xs H2 => r x xs H2 Q) : tBM K T r ta t σ H Q := h
theorem bmx {A : Prop} (h : H p = some (.lst xs)) (q : A) : tyV K "list" (.ref p) H ∧ A := ⟨.inl ⟨rfl, xs, SqL.of h⟩, q⟩
theorem app (h : H p = some (.lst xs)) (hl : xs.length < sizeLine) (q : Q .non (upd H p (.lst (xs ++ [v])))) : rAppend (.ref p) [v] H Q := ⟨p, xs, v, rfl, rfl, h, hl, q⟩
theorem ins (h : H p = some (.lst xs)) (hl : xs.length < sizeLine) (h0 : 0 ≤ i) (h1 : i < 2 ^ 63) (q : Q .non (upd H p (.lst (xs.take i.toNat ++ [v] ++ xs.drop i.toNat)))) : OW.wIns (.ref p) [.int i, v] H Q := ⟨p, xs, i, v, rfl, rfl, h, hl, h0, h1, q⟩
theorem tbl (h : te σ H fun x H1 => ∃ c, x = .bl c ∧ QB c H1) : tB te σ H QB := h
theorem exb (q : QB b H) : ∃ k, V.bl b = .bl k ∧ QB k H := ⟨b, rfl, q⟩
theorem exb' {q : Bool → Prop} (h : q b) : ∃ k, V.bl b = .bl k ∧ q k := ⟨b, rfl, h⟩
theorem and (h : c σ H fun d H1 => if d = true then c2 σ H1 QB else QB false H1) : tAnd c c2 σ H QB := h
theorem or (h : c σ H fun d H1 => if d = true then QB true H1 else c2 σ H1 QB) : tOr c c2 σ H QB := h
theorem not (h : c σ H fun d H1 => QB (!d) H1) : tNot c σ H QB := h
theorem andV (h : ta σ H fun x H1 => ∃ c, x = .bl c ∧ if c = true then tb σ H1 Q else Q (.bl false) H1) : tAndV ta tb σ H Q := h
theorem orV (h : ta σ H fun x H1 => ∃ c, x = .bl c ∧ if c = true then Q (.bl true) H1 else tb σ H1 Q) : tOrV ta tb σ H Q := h
theorem notV (h : ta σ H fun x H1 => ∃ c, x = .bl c ∧ Q (.bl (!c)) H1) : tNotV ta σ H Q := h
theorem isN (h : ta σ H fun x H1 => Q (.bl (decide (x = .non))) H1) : tIsN ta σ H Q := h
theorem notN (h : ta σ H fun x H1 => Q (.bl (!decide (x = .non))) H1) : tNotN ta σ H Q := h
theorem chain {r r' : R2} (h : ta σ H fun x H1 => tb σ H1 fun y H2 => r x y H2 fun z H3 => ∃ k, z = .bl k ∧ (if k = true then tc σ H3 fun w' H4 => r' y w' H4 Q else Q (.bl false) H3)) : tChain r r' ta tb tc σ H Q := h
theorem nil (h : QL [] H) : tNil σ H QL := h
theorem cons {tr : TA} (h : ta σ H fun x H1 => tr σ H1 fun xs H2 => QL (x :: xs) H2) : tCons ta tr σ H QL := h
theorem cb {r : List V → Hp → VK → Prop} {t : TA} (h : t σ H fun vs H1 => r vs H1 Q) : tCB r t σ H Q := h
theorem call {sp : Sp} {dvs : List V} {E : XK} {t : TA} (h : t σ H fun vs H1 => sp (vs ++ dvs) H1 Q E) : tCall sp dvs E t σ H Q := h
theorem tup {t : TA} (h : t σ H fun xs H1 => xs.length ≤ sizeLine ∧ ∀ p, H1 p = none → Q (.ref p) (upd H1 p (.tup xs))) : tTup t σ H Q := h
theorem lst {t : TA} (h : t σ H fun xs H1 => xs.length ≤ sizeLine ∧ ∀ p, H1 p = none → Q (.ref p) (upd H1 p (.lst xs))) : tLst t σ H Q := h
theorem lnew {A : Prop} (h : xs.length ≤ sizeLine) (k : A) : xs.length ≤ sizeLine ∧ A := ⟨h, k⟩
theorem isi {c : V} {t u : Value} (hc : ClsV c u) (ht : TyX K H x t) (e : PySem.W.kitOne K t u = some b) (q : Q (.bl b) H) : rIsi K [x, c] H Q := ⟨x, c, t, u, b, rfl, hc, ht, e, q⟩
theorem ixl (h : SqL K H p xs) (e : atI xs i = some v) (q : Q v H) : rIxL K (.ref p) (.int i) H Q := ⟨p, xs, i, v, rfl, rfl, h, e, q⟩
theorem ixt (h : SqT K H p xs) (e : atI xs i = some v) (q : Q v H) : rIxT K (.ref p) (.int i) H Q := ⟨p, xs, i, v, rfl, rfl, h, e, q⟩
theorem gsub {to ti : TE} {ts : TSet} (h : to σ H fun o H1 => ti σ H1 fun i H2 => ts o i v H2 fun H3 => QS σ H3) : gSub to ti ts v σ H QS := h
theorem setl {QH : Hp → Prop} {k : Int} {n : Nat} (h : H p = some (.lst xs)) (e : ixN xs.length k = some n) (q : QH (upd H p (.lst (xs.set n v)))) : rSetL (.ref p) (.int k) v H QH := ⟨p, xs, k, n, rfl, rfl, h, e, q⟩
theorem int1 (q : Q (.int i) H) : OW.wInt1 [.int i] H Q := .inl ⟨i, rfl, q⟩
theorem int1b (q : Q (.int (if b = true then 1 else 0)) H) : OW.wInt1 [.bl b] H Q := .inr ⟨b, rfl, q⟩
theorem abs1 (q : Q (.int (if i < 0 then -i else i)) H) : OW.wAbs [.int i] H Q := ⟨i, rfl, q⟩
theorem max2 (q : Q (.int (if j > i then j else i)) H) : OW.wMax2 [.int i, .int j] H Q := ⟨i, j, rfl, q⟩
theorem min2 (q : Q (.int (if j < i then j else i)) H) : OW.wMin2 [.int i, .int j] H Q := ⟨i, j, rfl, q⟩
theorem strI (h : i.natAbs.log2 < 1920) (q : Q (.str (toString i)) H) : OW.wStrI [.int i] H Q := ⟨i, rfl, h, q⟩
theorem lenS {z : Str} (h : z.length ≤ sizeLine) (q : Q (.int z.length) H) : OW.wLenS [.str z] H Q := ⟨z, rfl, h, q⟩
theorem lenL (h : SqL K H p xs) (q : Q (.int xs.length) H) : OW.wLen K [.ref p] H Q := ⟨p, xs, rfl, .inl h, q⟩
theorem lenT (h : SqT K H p xs) (q : Q (.int xs.length) H) : OW.wLen K [.ref p] H Q := ⟨p, xs, rfl, .inr h, q⟩
theorem addS {s d : Str} (h : s.length + d.length ≤ sizeLine) (q : Q (.str (s ++ d)) H) : OW.wAddS (.str s) (.str d) H Q := ⟨s, d, rfl, rfl, h, q⟩
theorem mul {g : Int → Int → V} (h : CMul i j) (q : Q (g i j) H) : rI CMul g (.int i) (.int j) H Q := ⟨i, j, rfl, rfl, h, q⟩
theorem mulW {g : Int → Int → V} (h : CMulW i j) (q : Q (g i j) H) : rI CMulW g (.int i) (.int j) H Q := ⟨i, j, rfl, rfl, h, q⟩
theorem divA {g : Int → Int → V} (h : OW.CDivA i j) (q : Q (g i j) H) : rI OW.CDivA g (.int i) (.int j) H Q := ⟨i, j, rfl, rfl, h, q⟩
theorem divW {g : Int → Int → V} (h : CDivW i j) (q : Q (g i j) H) : rI CDivW g (.int i) (.int j) H Q := ⟨i, j, rfl, rfl, h, q⟩
theorem div {g : Int → Int → V} (h : CDiv i j) (q : Q (g i j) H) : rI CDiv g (.int i) (.int j) H Q := ⟨i, j, rfl, rfl, h, q⟩
theorem pow {g : Int → Int → V} (h : CPow i j) (q : Q (g i j) H) : rI CPow g (.int i) (.int j) H Q := ⟨i, j, rfl, rfl, h, q⟩
theorem mod {g : Int → Int → V} (h : 0 < j) (q : Q (g i j) H) : rI (fun _ j => 0 < j) g (.int i) (.int j) H Q := ⟨i, j, rfl, rfl, h, q⟩
theorem fld {f : Str} (h : ta σ H fun x H1 => ∃ a C dx fs v, x = .ref a ∧ H1 a = some (.ins C dx fs) ∧ Cls K C ∧ NoAttr K C f ∧ fs.lookup f = some v ∧ Q v H1) : tFld K ta f σ H Q := h
theorem fldx {f : Str} {a C dx : Addr} {fs : List (Str × V)} {A : V → Prop} (h : H a = some (.ins C dx fs)) (hc : Cls K C) (hn : NoAttr K C f) (e : fs.lookup f = some v) (q : A v) : ∃ a' C dx fs v, V.ref a = .ref a' ∧ H a' = some (.ins C dx fs) ∧ Cls K C ∧ NoAttr K C f ∧ fs.lookup f = some v ∧ A v := ⟨a, C, dx, fs, v, rfl, h, hc, hn, e, q⟩
theorem sfld {tv : TE} {f : Str} (h : tv σ H fun y H1 => ta σ H1 fun x H2 => ∃ a C dx fs, x = .ref a ∧ H2 a = some (.ins C dx fs) ∧ Cls K C ∧ NoAttr K C f ∧ fs.length < 1000 ∧ D.nx σ (upd H2 a (.ins C dx (putF f y fs)))) : sFld K ta tv f D σ H := h
theorem sfldx {f : Str} {a C dx : Addr} {fs : List (Str × V)} {A : Hp → Prop} (h : H a = some (.ins C dx fs)) (hc : Cls K C) (hn : NoAttr K C f) (e : fs.length < 1000) (q : A (upd H a (.ins C dx (putF f y fs)))) : ∃ a' C dx fs, V.ref a = .ref a' ∧ H a' = some (.ins C dx fs) ∧ Cls K C ∧ NoAttr K C f ∧ fs.length < 1000 ∧ A (upd H a' (.ins C dx (putF f y fs))) := ⟨a, C, dx, fs, rfl, h, hc, hn, e, q⟩
theorem gcd {a b : Int} (q : Q (.int ((Nat.gcd a.natAbs b.natAbs : Nat) : Int)) H) : rGcd [.int a, .int b] H Q := ⟨a, b, rfl, q⟩
theorem make {C : Addr} {sp : Sp} {dvs : List V} {E : XK} {t : TA} (h : t σ H fun vs H1 => ∀ x dx, H1 x = none → H1 dx = none → dx ≠ x → sp (.ref x :: (vs ++ dvs)) (upd (upd H1 dx (.own x)) x (.ins C dx [])) (fun v H2 => v = .non ∧ Q (.ref x) H2) E) : tMake C sp dvs E t σ H Q := h
theorem makeS {C : Addr} {sp : Sp} {dvs : List V} {E : L2.St → XK} {t : TA} (h : t σ H fun vs H1 => ∀ x dx, H1 x = none → H1 dx = none → dx ≠ x → sp (.ref x :: (vs ++ dvs)) (upd (upd H1 dx (.own x)) x (.ins C dx [])) (fun v H2 => v = .non ∧ Q (.ref x) H2) (E σ)) : OW.tMakeS C sp dvs E t σ H Q := h
theorem meth {C : Addr} {m : Str} {sp : Sp} {dvs : List V} {E : XK} {t : TA} (h : ta σ H fun x H1 => ∃ a dx fs, x = .ref a ∧ H1 a = some (.ins C dx fs) ∧ fs.lookup m = none ∧ t σ H1 fun vs H2 => sp (x :: (vs ++ dvs)) H2 Q E) : tMeth C m sp dvs E ta t σ H Q := h
theorem methx {C a dx : Addr} {fs : List (Str × V)} {m : Str} {A : Prop} (h : H a = some (.ins C dx fs)) (e : fs.lookup m = none) (q : A) : ∃ a' dx fs, V.ref a = .ref a' ∧ H a' = some (.ins C dx fs) ∧ fs.lookup m = none ∧ A := ⟨a, dx, fs, rfl, h, e, q⟩
theorem own2 {C a dx b dy : Addr} {fs gs : List (Str × V)} {sp : Sp} {E : XK} (ha : H a = some (.ins C dx fs)) (hb : H b = some (.ins C dy gs)) (q : sp [.ref a, .ref b] H Q E) : OW.rOwn2 C sp E (.ref a) (.ref b) H Q := ⟨a, dx, fs, b, dy, gs, rfl, rfl, ha, hb, q⟩
theorem own1 {C a dx : Addr} {fs : List (Str × V)} {sp : Sp} {E : XK} (ha : H a = some (.ins C dx fs)) (q : sp [.ref a] H Q E) : OW.rOwn1 C sp E (.ref a) H Q := ⟨a, dx, fs, rfl, ha, q⟩
theorem inOwn {C a dx : Addr} {fs : List (Str × V)} {sp : Sp} {E : XK} {neg : Bool} (ha : H a = some (.ins C dx fs)) (q : sp [.ref a, y] H (fun z H' => ∃ b, z = .bl b ∧ Q (.bl (if neg then !b else b)) H') E) : OW.rInOwn C sp E neg y (.ref a) H Q := ⟨a, dx, fs, rfl, ha, q⟩
theorem fmtI (h : i.natAbs.log2 < 1920) (q : Q (.str (toString i)) H) : OW.wFmt (.int i) H Q := .inr ⟨i, rfl, h, q⟩
theorem fmtS {s : Str} (h : s.length ≤ sizeLine) (q : Q (.str s) H) : OW.wFmt (.str s) H Q := .inl ⟨s, rfl, h, q⟩
theorem jcons {t : TE} {ts : List TE} {acc : Str} {Q : Str → Hp → Prop} (h : t σ H fun x H1 => ∃ y : Str, x = .str y ∧ (acc ++ y).length ≤ sizeLine ∧ tJs ts (acc ++ y) σ H1 Q) : tJs (t :: ts) acc σ H Q := h
theorem jnil {acc : Str} {Q : Str → Hp → Prop} (h : Q acc H) : tJs [] acc σ H Q := h
theorem jstr {ts : List TE} {acc s : Str} {Q : Str → Hp → Prop} (h : (acc ++ s).length ≤ sizeLine) (q : tJs ts (acc ++ s) σ H Q) : ∃ y : Str, V.str s = .str y ∧ (acc ++ y).length ≤ sizeLine ∧ tJs ts (acc ++ y) σ H Q := ⟨s, rfl, h, q⟩
theorem l2 {i : Int} {n : Nat} (h : i.natAbs < 2 ^ n) (h0 : 0 < n) (h1 : n ≤ 1920) : i.natAbs.log2 < 1920 := Nat.lt_of_lt_of_le (PySem.Flt.log2_lt_of h0 h) h1
theorem forS {wi : TI} {tb : TS} (h : wi σ H fun J H1 => ∃ W : Nat → Nat → L2.St → Hp → Prop, (∃ m, W 0 m σ H1) ∧ ∀ i m σ H, W i m σ H →
  (J.stop i H ∧ D.nx σ H) ∨ (J.go i H ∧ ∃ N : L2.St → Hp → Prop, (∀ σ' H', N σ' H' → ∃ m', m' < m ∧ W (i + 1) m' σ' H') ∧ ∀ x H', J.yld i H x H' → g x σ H' fun σ2 H2 => tb { D with nx := N, ct := N, bk := D.nx } σ2 H2)) : tFor wi g tb D σ H := h
theorem rng1 {ta : TA} {R : It → Hp → Prop} (h : ta σ H fun vs H1 => ∃ j : Int, vs = [.int j] ∧ -(2 ^ 62) ≤ j ∧ j < 2 ^ 62 ∧ R (Itr 0 j.toNat) H1) : iRng1 ta σ H R := h
theorem rng1x {n : Int} {A : Int → Prop} (h : -(2 ^ 62) ≤ n) (h2 : n < 2 ^ 62) (q : A n) : ∃ j : Int, [V.int n] = [.int j] ∧ -(2 ^ 62) ≤ j ∧ j < 2 ^ 62 ∧ A j := ⟨n, rfl, h, h2, q⟩
theorem rng2 {ta : TA} {R : It → Hp → Prop} (h : ta σ H fun vs H1 => ∃ i j : Int, vs = [.int i, .int j] ∧ (-(2 ^ 62) ≤ i ∧ i < 2 ^ 62 ∧ -(2 ^ 62) ≤ j ∧ j < 2 ^ 62) ∧ R (Itr i (j - i).toNat) H1) : iRng2 ta σ H R := h
theorem rng2x {m n : Int} {A : Int → Int → Prop} (h : -(2 ^ 62) ≤ m ∧ m < 2 ^ 62 ∧ -(2 ^ 62) ≤ n ∧ n < 2 ^ 62) (q : A m n) : ∃ i j : Int, [V.int m, V.int n] = [.int i, .int j] ∧ (-(2 ^ 62) ≤ i ∧ i < 2 ^ 62 ∧ -(2 ^ 62) ≤ j ∧ j < 2 ^ 62) ∧ A i j := ⟨m, n, rfl, h, q⟩
theorem isEE {D : Addr} {y : V} {a : Addr} {cv : Value} (hE : ExcC K D) (hc : ∀ u, RelV y u → u = cv) (e : PySem.W.kitOne K (.ref D) cv = some b) (q : Q (.bl b) H) : OW.rIsEE K a (.ref D) none [.ref a, y] H Q := ⟨D, y, cv, b, rfl, rfl, rfl, hE, hc, e, q⟩
theorem iteNt {A B : Prop} (h : B) : if (!true) = true then A else B := iteF h
theorem iteNf {A B : Prop} (h : A) : if (!false) = true then A else B := iteT h
theorem lc {wi : TI} {tt : TT} {vs : List Nat} (h : wi σ H fun J H1 => ∀ D, H1 D = none → ∃ W : Nat → Nat → Hp → Prop, (∃ m, W 0 m (upd H1 D (.lst []))) ∧ ∀ i m H, W i m H →
    (J.stop i H ∧ Q (.ref D) H) ∨
    (J.go i H ∧ ∃ Nx : Hp → Prop, (∀ H', Nx H' → ∃ m', m' < m ∧ W (i + 1) m' H') ∧
      ∀ x H', J.yld i H x H' → g x (wipe σ vs) H' fun σ2 H2 => wipe σ2 vs = wipe σ vs ∧
        tt σ2 H2 fun b H3 => if b = true then te σ2 H3 fun y H4 => ∃ acc, H4 D = some (.lst acc) ∧ acc.length < sizeLine ∧ Nx (upd H4 D (.lst (acc ++ [y]))) else Nx H3)) : tLc wi g tt te vs σ H Q := h
theorem wip {σ' : L2.St} {vs : List Nat} {A : Prop} (e : wipe σ vs = σ') (q : A) : wipe σ vs = σ' ∧ A := ⟨e, q⟩
theorem yes (q : QB true H) : tYes σ H QB := q
theorem makeN {C : Addr} {n m : Nat} {sp : Sp} {gV : List V → List V → List V} {E : XK} {t tk : TA} (h : t σ H fun vs H1 => tk σ H1 fun zs H2 => vs.length = n ∧ zs.length = m ∧
  ∀ x dx, H2 x = none → H2 dx = none → dx ≠ x → sp (gV (.ref x :: vs) zs) (upd (upd H2 dx (.own x)) x (.ins C dx [])) (fun v H3 => v = .non ∧ Q (.ref x) H3) E) : tMakeN C n m sp gV E t tk σ H Q := h
theorem forR {lo : Int} {n : Nat} {g : TG} {tb : TS} {nx : L2.St → Hp → Prop} {rt : VK} (Pv : Nat → L2.St → Hp → Prop) (h0 : Pv 0 σ H)
    (hs : ∀ i σ H, i < n → Pv i σ H → g (.int (lo + i)) σ H fun σ2 H2 => tb { nx := Pv (i + 1), rt := rt, bk := nx, ct := Pv (i + 1) } σ2 H2) (hd : ∀ σ H, Pv n σ H → nx σ H) :
    ∃ Wd : Nat → Nat → L2.St → Hp → Prop, (∃ m, Wd 0 m σ H) ∧ ∀ i m σ H, Wd i m σ H →
      ((Itr lo n).stop i H ∧ nx σ H) ∨ ((Itr lo n).go i H ∧ ∃ N : L2.St → Hp → Prop, (∀ σ' H', N σ' H' → ∃ m', m' < m ∧ Wd (i + 1) m' σ' H') ∧ ∀ x H', (Itr lo n).yld i H x H' → g x σ H' fun σ2 H2 => tb { nx := N, rt := rt, bk := nx, ct := N } σ2 H2) :=
  for_range (D := { nx := nx, rt := rt }) Pv h0 hs hd
theorem forL {a : Addr} {g : TG} {tb : TS} {nx : L2.St → Hp → Prop} {rt : VK} (Pv : Nat → L2.St → Hp → Prop) (h0 : Pv 0 σ H) (hl : ∀ i σ H, i ≤ xs.length → Pv i σ H → SqL K H a xs)
    (hs : ∀ i x σ H, xs[i]? = some x → Pv i σ H → g x σ H fun σ2 H2 => tb { nx := Pv (i + 1), rt := rt, bk := nx, ct := Pv (i + 1) } σ2 H2) (hd : ∀ σ H, Pv xs.length σ H → nx σ H) :
    ∃ Wd : Nat → Nat → L2.St → Hp → Prop, (∃ m, Wd 0 m σ H) ∧ ∀ i m σ H, Wd i m σ H →
      ((Itl K a).stop i H ∧ nx σ H) ∨ ((Itl K a).go i H ∧ ∃ N : L2.St → Hp → Prop, (∀ σ' H', N σ' H' → ∃ m', m' < m ∧ Wd (i + 1) m' σ' H') ∧ ∀ x H', (Itl K a).yld i H x H' → g x σ H' fun σ2 H2 => tb { nx := N, rt := rt, bk := nx, ct := N } σ2 H2) :=
  for_list (D := { nx := nx, rt := rt }) Pv h0 hl hs hd
theorem forT {a : Addr} {g : TG} {tb : TS} {nx : L2.St → Hp → Prop} {rt : VK} (Pv : Nat → L2.St → Hp → Prop) (h0 : Pv 0 σ H) (hl : ∀ i σ H, i ≤ xs.length → Pv i σ H → SqT K H a xs)
    (hs : ∀ i x σ H, xs[i]? = some x → Pv i σ H → g x σ H fun σ2 H2 => tb { nx := Pv (i + 1), rt := rt, bk := nx, ct := Pv (i + 1) } σ2 H2) (hd : ∀ σ H, Pv xs.length σ H → nx σ H) :
    ∃ Wd : Nat → Nat → L2.St → Hp → Prop, (∃ m, Wd 0 m σ H) ∧ ∀ i m σ H, Wd i m σ H →
      ((Itt K a).stop i H ∧ nx σ H) ∨ ((Itt K a).go i H ∧ ∃ N : L2.St → Hp → Prop, (∀ σ' H', N σ' H' → ∃ m', m' < m ∧ Wd (i + 1) m' σ' H') ∧ ∀ x H', (Itt K a).yld i H x H' → g x σ H' fun σ2 H2 => tb { nx := N, rt := rt, bk := nx, ct := N } σ2 H2) :=
  for_tup (D := { nx := nx, rt := rt }) Pv h0 hl hs hd
theorem ite {A B : Prop} (h1 : b = true → A) (h2 : b = false → B) : if b = true then A else B := by
  cases b with
  | true => exact iteT (h1 rfl)
  | false => exact iteF (h2 rfl)
theorem iteD {P A B : Prop} [Decidable P] (h1 : P → A) (h2 : ¬ P → B) : if decide P = true then A else B := ite (fun e => h1 (of_decide_eq_true e)) (fun e => h2 (of_decide_eq_false e))
theorem iteN {A B : Prop} (h1 : b = false → A) (h2 : b = true → B) : if (!b) = true then A else B := by
  cases b with
  | true => exact iteF (h2 rfl)
  | false => exact iteT (h1 rfl)
theorem iteDN {P A B : Prop} [Decidable P] (h1 : ¬ P → A) (h2 : P → B) : if (!decide P) = true then A else B := iteN (fun e => h1 (of_decide_eq_false e)) (fun e => h2 (of_decide_eq_true e))
theorem iteT' {A B : Prop} (e : b = true) (h : A) : if b = true then A else B := by rw [if_pos e]; exact h
theorem iteF' {A B : Prop} (e : b = false) (h : B) : if b = true then A else B := by rw [if_neg (by rw [e]; exact Bool.false_ne_true)]; exact h
theorem iteDT {P A B : Prop} [Decidable P] (e : P) (h : A) : if decide P = true then A else B := iteT' (decide_eq_true e) h
theorem iteDF {P A B : Prop} [Decidable P] (e : ¬ P) (h : B) : if decide P = true then A else B := iteF' (decide_eq_false e) h
theorem iteNT {P A B : Prop} [Decidable P] (e : ¬ P) (h : A) : if (!decide P) = true then A else B := iteT' (by rw [decide_eq_false e]; rfl) h
theorem iteNF {P A B : Prop} [Decidable P] (e : P) (h : B) : if (!decide P) = true then A else B := iteF' (by rw [decide_eq_true e]; rfl) h
theorem v0 {r : L2.St} (q : Q v H) : tVar 0 (some v :: r) H Q := ⟨v, rfl, q⟩
theorem v1 {a0 : Option V} {r : L2.St} (q : Q v H) : tVar 1 (a0 :: some v :: r) H Q := ⟨v, rfl, q⟩
theorem v2 {a0 a1 : Option V} {r : L2.St} (q : Q v H) : tVar 2 (a0 :: a1 :: some v :: r) H Q := ⟨v, rfl, q⟩
theorem v3 {a0 a1 a2 : Option V} {r : L2.St} (q : Q v H) : tVar 3 (a0 :: a1 :: a2 :: some v :: r) H Q := ⟨v, rfl, q⟩
theorem v4 {a0 a1 a2 a3 : Option V} {r : L2.St} (q : Q v H) : tVar 4 (a0 :: a1 :: a2 :: a3 :: some v :: r) H Q := ⟨v, rfl, q⟩
theorem v5 {a0 a1 a2 a3 a4 : Option V} {r : L2.St} (q : Q v H) : tVar 5 (a0 :: a1 :: a2 :: a3 :: a4 :: some v :: r) H Q := ⟨v, rfl, q⟩
theorem v6 {a0 a1 a2 a3 a4 a5 : Option V} {r : L2.St} (q : Q v H) : tVar 6 (a0 :: a1 :: a2 :: a3 :: a4 :: a5 :: some v :: r) H Q := ⟨v, rfl, q⟩
theorem v7 {a0 a1 a2 a3 a4 a5 a6 : Option V} {r : L2.St} (q : Q v H) : tVar 7 (a0 :: a1 :: a2 :: a3 :: a4 :: a5 :: a6 :: some v :: r) H Q := ⟨v, rfl, q⟩
theorem v8 {a0 a1 a2 a3 a4 a5 a6 a7 : Option V} {r : L2.St} (q : Q v H) : tVar 8 (a0 :: a1 :: a2 :: a3 :: a4 :: a5 :: a6 :: a7 :: some v :: r) H Q := ⟨v, rfl, q⟩
theorem v9 {a0 a1 a2 a3 a4 a5 a6 a7 a8 : Option V} {r : L2.St} (q : Q v H) : tVar 9 (a0 :: a1 :: a2 :: a3 :: a4 :: a5 :: a6 :: a7 :: a8 :: some v :: r) H Q := ⟨v, rfl, q⟩
theorem v10 {a0 a1 a2 a3 a4 a5 a6 a7 a8 a9 : Option V} {r : L2.St} (q : Q v H) : tVar 10 (a0 :: a1 :: a2 :: a3 :: a4 :: a5 :: a6 :: a7 :: a8 :: a9 :: some v :: r) H Q := ⟨v, rfl, q⟩
theorem v11 {a0 a1 a2 a3 a4 a5 a6 a7 a8 a9 a10 : Option V} {r : L2.St} (q : Q v H) : tVar 11 (a0 :: a1 :: a2 :: a3 :: a4 :: a5 :: a6 :: a7 :: a8 :: a9 :: a10 :: some v :: r) H Q := ⟨v, rfl, q⟩
theorem v12 {a0 a1 a2 a3 a4 a5 a6 a7 a8 a9 a10 a11 : Option V} {r : L2.St} (q : Q v H) : tVar 12 (a0 :: a1 :: a2 :: a3 :: a4 :: a5 :: a6 :: a7 :: a8 :: a9 :: a10 :: a11 :: some v :: r) H Q := ⟨v, rfl, q⟩
theorem v13 {a0 a1 a2 a3 a4 a5 a6 a7 a8 a9 a10 a11 a12 : Option V} {r : L2.St} (q : Q v H) : tVar 13 (a0 :: a1 :: a2 :: a3 :: a4 :: a5 :: a6 :: a7 :: a8 :: a9 :: a10 :: a11 :: a12 :: some v :: r) H Q := ⟨v, rfl, q⟩
theorem v14 {a0 a1 a2 a3 a4 a5 a6 a7 a8 a9 a10 a11 a12 a13 : Option V} {r : L2.St} (q : Q v H) : tVar 14 (a0 :: a1 :: a2 :: a3 :: a4 :: a5 :: a6 :: a7 :: a8 :: a9 :: a10 :: a11 :: a12 :: a13 :: some v :: r) H Q := ⟨v, rfl, q⟩
theorem v15 {a0 a1 a2 a3 a4 a5 a6 a7 a8 a9 a10 a11 a12 a13 a14 : Option V} {r : L2.St} (q : Q v H) : tVar 15 (a0 :: a1 :: a2 :: a3 :: a4 :: a5 :: a6 :: a7 :: a8 :: a9 :: a10 :: a11 :: a12 :: a13 :: a14 :: some v :: r) H Q := ⟨v, rfl, q⟩
theorem v16 {a0 a1 a2 a3 a4 a5 a6 a7 a8 a9 a10 a11 a12 a13 a14 a15 : Option V} {r : L2.St} (q : Q v H) : tVar 16 (a0 :: a1 :: a2 :: a3 :: a4 :: a5 :: a6 :: a7 :: a8 :: a9 :: a10 :: a11 :: a12 :: a13 :: a14 :: a15 :: some v :: r) H Q := ⟨v, rfl, q⟩
theorem v17 {a0 a1 a2 a3 a4 a5 a6 a7 a8 a9 a10 a11 a12 a13 a14 a15 a16 : Option V} {r : L2.St} (q : Q v H) : tVar 17 (a0 :: a1 :: a2 :: a3 :: a4 :: a5 :: a6 :: a7 :: a8 :: a9 :: a10 :: a11 :: a12 :: a13 :: a14 :: a15 :: a16 :: some v :: r) H Q := ⟨v, rfl, q⟩
theorem v18 {a0 a1 a2 a3 a4 a5 a6 a7 a8 a9 a10 a11 a12 a13 a14 a15 a16 a17 : Option V} {r : L2.St} (q : Q v H) : tVar 18 (a0 :: a1 :: a2 :: a3 :: a4 :: a5 :: a6 :: a7 :: a8 :: a9 :: a10 :: a11 :: a12 :: a13 :: a14 :: a15 :: a16 :: a17 :: some v :: r) H Q := ⟨v, rfl, q⟩
theorem v19 {a0 a1 a2 a3 a4 a5 a6 a7 a8 a9 a10 a11 a12 a13 a14 a15 a16 a17 a18 : Option V} {r : L2.St} (q : Q v H) : tVar 19 (a0 :: a1 :: a2 :: a3 :: a4 :: a5 :: a6 :: a7 :: a8 :: a9 :: a10 :: a11 :: a12 :: a13 :: a14 :: a15 :: a16 :: a17 :: a18 :: some v :: r) H Q := ⟨v, rfl, q⟩
theorem v20 {a0 a1 a2 a3 a4 a5 a6 a7 a8 a9 a10 a11 a12 a13 a14 a15 a16 a17 a18 a19 : Option V} {r : L2.St} (q : Q v H) : tVar 20 (a0 :: a1 :: a2 :: a3 :: a4 :: a5 :: a6 :: a7 :: a8 :: a9 :: a10 :: a11 :: a12 :: a13 :: a14 :: a15 :: a16 :: a17 :: a18 :: a19 :: some v :: r) H Q := ⟨v, rfl, q⟩
theorem v21 {a0 a1 a2 a3 a4 a5 a6 a7 a8 a9 a10 a11 a12 a13 a14 a15 a16 a17 a18 a19 a20 : Option V} {r : L2.St} (q : Q v H) : tVar 21 (a0 :: a1 :: a2 :: a3 :: a4 :: a5 :: a6 :: a7 :: a8 :: a9 :: a10 :: a11 :: a12 :: a13 :: a14 :: a15 :: a16 :: a17 :: a18 :: a19 :: a20 :: some v :: r) H Q := ⟨v, rfl, q⟩
theorem v22 {a0 a1 a2 a3 a4 a5 a6 a7 a8 a9 a10 a11 a12 a13 a14 a15 a16 a17 a18 a19 a20 a21 : Option V} {r : L2.St} (q : Q v H) : tVar 22 (a0 :: a1 :: a2 :: a3 :: a4 :: a5 :: a6 :: a7 :: a8 :: a9 :: a10 :: a11 :: a12 :: a13 :: a14 :: a15 :: a16 :: a17 :: a18 :: a19 :: a20 :: a21 :: some v :: r) H Q := ⟨v, rfl, q⟩
theorem v23 {a0 a1 a2 a3 a4 a5 a6 a7 a8 a9 a10 a11 a12 a13 a14 a15 a16 a17 a18 a19 a20 a21 a22 : Option V} {r : L2.St} (q : Q v H) : tVar 23 (a0 :: a1 :: a2 :: a3 :: a4 :: a5 :: a6 :: a7 :: a8 :: a9 :: a10 :: a11 :: a12 :: a13 :: a14 :: a15 :: a16 :: a17 :: a18 :: a19 :: a20 :: a21 :: a22 :: some v :: r) H Q := ⟨v, rfl, q⟩
theorem v24 {a0 a1 a2 a3 a4 a5 a6 a7 a8 a9 a10 a11 a12 a13 a14 a15 a16 a17 a18 a19 a20 a21 a22 a23 : Option V} {r : L2.St} (q : Q v H) : tVar 24 (a0 :: a1 :: a2 :: a3 :: a4 :: a5 :: a6 :: a7 :: a8 :: a9 :: a10 :: a11 :: a12 :: a13 :: a14 :: a15 :: a16 :: a17 :: a18 :: a19 :: a20 :: a21 :: a22 :: a23 :: some v :: r) H Q := ⟨v, rfl, q⟩
theorem v25 {a0 a1 a2 a3 a4 a5 a6 a7 a8 a9 a10 a11 a12 a13 a14 a15 a16 a17 a18 a19 a20 a21 a22 a23 a24 : Option V} {r : L2.St} (q : Q v H) : tVar 25 (a0 :: a1 :: a2 :: a3 :: a4 :: a5 :: a6 :: a7 :: a8 :: a9 :: a10 :: a11 :: a12 :: a13 :: a14 :: a15 :: a16 :: a17 :: a18 :: a19 :: a20 :: a21 :: a22 :: a23 :: a24 :: some v :: r) H Q := ⟨v, rfl, q⟩
theorem g0 {z : Option V} {r : L2.St} (q : QS (some v :: r) H) : gName 0 v (z :: r) H QS := q
theorem g1 {a0 : Option V} {z : Option V} {r : L2.St} (q : QS (a0 :: some v :: r) H) : gName 1 v (a0 :: z :: r) H QS := q
theorem g2 {a0 a1 : Option V} {z : Option V} {r : L2.St} (q : QS (a0 :: a1 :: some v :: r) H) : gName 2 v (a0 :: a1 :: z :: r) H QS := q
theorem g3 {a0 a1 a2 : Option V} {z : Option V} {r : L2.St} (q : QS (a0 :: a1 :: a2 :: some v :: r) H) : gName 3 v (a0 :: a1 :: a2 :: z :: r) H QS := q
theorem g4 {a0 a1 a2 a3 : Option V} {z : Option V} {r : L2.St} (q : QS (a0 :: a1 :: a2 :: a3 :: some v :: r) H) : gName 4 v (a0 :: a1 :: a2 :: a3 :: z :: r) H QS := q
theorem g5 {a0 a1 a2 a3 a4 : Option V} {z : Option V} {r : L2.St} (q : QS (a0 :: a1 :: a2 :: a3 :: a4 :: some v :: r) H) : gName 5 v (a0 :: a1 :: a2 :: a3 :: a4 :: z :: r) H QS := q
theorem g6 {a0 a1 a2 a3 a4 a5 : Option V} {z : Option V} {r : L2.St} (q : QS (a0 :: a1 :: a2 :: a3 :: a4 :: a5 :: some v :: r) H) : gName 6 v (a0 :: a1 :: a2 :: a3 :: a4 :: a5 :: z :: r) H QS := q
theorem g7 {a0 a1 a2 a3 a4 a5 a6 : Option V} {z : Option V} {r : L2.St} (q : QS (a0 :: a1 :: a2 :: a3 :: a4 :: a5 :: a6 :: some v :: r) H) : gName 7 v (a0 :: a1 :: a2 :: a3 :: a4 :: a5 :: a6 :: z :: r) H QS := q
theorem g8 {a0 a1 a2 a3 a4 a5 a6 a7 : Option V} {z : Option V} {r : L2.St} (q : QS (a0 :: a1 :: a2 :: a3 :: a4 :: a5 :: a6 :: a7 :: some v :: r) H) : gName 8 v (a0 :: a1 :: a2 :: a3 :: a4 :: a5 :: a6 :: a7 :: z :: r) H QS := q
theorem g9 {a0 a1 a2 a3 a4 a5 a6 a7 a8 : Option V} {z : Option V} {r : L2.St} (q : QS (a0 :: a1 :: a2 :: a3 :: a4 :: a5 :: a6 :: a7 :: a8 :: some v :: r) H) : gName 9 v (a0 :: a1 :: a2 :: a3 :: a4 :: a5 :: a6 :: a7 :: a8 :: z :: r) H QS := q
theorem g10 {a0 a1 a2 a3 a4 a5 a6 a7 a8 a9 : Option V} {z : Option V} {r : L2.St} (q : QS (a0 :: a1 :: a2 :: a3 :: a4 :: a5 :: a6 :: a7 :: a8 :: a9 :: some v :: r) H) : gName 10 v (a0 :: a1 :: a2 :: a3 :: a4 :: a5 :: a6 :: a7 :: a8 :: a9 :: z :: r) H QS := q
theorem g11 {a0 a1 a2 a3 a4 a5 a6 a7 a8 a9 a10 : Option V} {z : Option V} {r : L2.St} (q : QS (a0 :: a1 :: a2 :: a3 :: a4 :: a5 :: a6 :: a7 :: a8 :: a9 :: a10 :: some v :: r) H) : gName 11 v (a0 :: a1 :: a2 :: a3 :: a4 :: a5 :: a6 :: a7 :: a8 :: a9 :: a10 :: z :: r) H QS := q
theorem g12 {a0 a1 a2 a3 a4 a5 a6 a7 a8 a9 a10 a11 : Option V} {z : Option V} {r : L2.St} (q : QS (a0 :: a1 :: a2 :: a3 :: a4 :: a5 :: a6 :: a7 :: a8 :: a9 :: a10 :: a11 :: some v :: r) H) : gName 12 v (a0 :: a1 :: a2 :: a3 :: a4 :: a5 :: a6 :: a7 :: a8 :: a9 :: a10 :: a11 :: z :: r) H QS := q
theorem g13 {a0 a1 a2 a3 a4 a5 a6 a7 a8 a9 a10 a11 a12 : Option V} {z : Option V} {r : L2.St} (q : QS (a0 :: a1 :: a2 :: a3 :: a4 :: a5 :: a6 :: a7 :: a8 :: a9 :: a10 :: a11 :: a12 :: some v :: r) H) : gName 13 v (a0 :: a1 :: a2 :: a3 :: a4 :: a5 :: a6 :: a7 :: a8 :: a9 :: a10 :: a11 :: a12 :: z :: r) H QS := q
theorem g14 {a0 a1 a2 a3 a4 a5 a6 a7 a8 a9 a10 a11 a12 a13 : Option V} {z : Option V} {r : L2.St} (q : QS (a0 :: a1 :: a2 :: a3 :: a4 :: a5 :: a6 :: a7 :: a8 :: a9 :: a10 :: a11 :: a12 :: a13 :: some v :: r) H) : gName 14 v (a0 :: a1 :: a2 :: a3 :: a4 :: a5 :: a6 :: a7 :: a8 :: a9 :: a10 :: a11 :: a12 :: a13 :: z :: r) H QS := q
theorem g15 {a0 a1 a2 a3 a4 a5 a6 a7 a8 a9 a10 a11 a12 a13 a14 : Option V} {z : Option V} {r : L2.St} (q : QS (a0 :: a1 :: a2 :: a3 :: a4 :: a5 :: a6 :: a7 :: a8 :: a9 :: a10 :: a11 :: a12 :: a13 :: a14 :: some v :: r) H) : gName 15 v (a0 :: a1 :: a2 :: a3 :: a4 :: a5 :: a6 :: a7 :: a8 :: a9 :: a10 :: a11 :: a12 :: a13 :: a14 :: z :: r) H QS := q
theorem g16 {a0 a1 a2 a3 a4 a5 a6 a7 a8 a9 a10 a11 a12 a13 a14 a15 : Option V} {z : Option V} {r : L2.St} (q : QS (a0 :: a1 :: a2 :: a3 :: a4 :: a5 :: a6 :: a7 :: a8 :: a9 :: a10 :: a11 :: a12 :: a13 :: a14 :: a15 :: some v :: r) H) : gName 16 v (a0 :: a1 :: a2 :: a3 :: a4 :: a5 :: a6 :: a7 :: a8 :: a9 :: a10 :: a11 :: a12 :: a13 :: a14 :: a15 :: z :: r) H QS := q
theorem g17 {a0 a1 a2 a3 a4 a5 a6 a7 a8 a9 a10 a11 a12 a13 a14 a15 a16 : Option V} {z : Option V} {r : L2.St} (q : QS (a0 :: a1 :: a2 :: a3 :: a4 :: a5 :: a6 :: a7 :: a8 :: a9 :: a10 :: a11 :: a12 :: a13 :: a14 :: a15 :: a16 :: some v :: r) H) : gName 17 v (a0 :: a1 :: a2 :: a3 :: a4 :: a5 :: a6 :: a7 :: a8 :: a9 :: a10 :: a11 :: a12 :: a13 :: a14 :: a15 :: a16 :: z :: r) H QS := q
theorem g18 {a0 a1 a2 a3 a4 a5 a6 a7 a8 a9 a10 a11 a12 a13 a14 a15 a16 a17 : Option V} {z : Option V} {r : L2.St} (q : QS (a0 :: a1 :: a2 :: a3 :: a4 :: a5 :: a6 :: a7 :: a8 :: a9 :: a10 :: a11 :: a12 :: a13 :: a14 :: a15 :: a16 :: a17 :: some v :: r) H) : gName 18 v (a0 :: a1 :: a2 :: a3 :: a4 :: a5 :: a6 :: a7 :: a8 :: a9 :: a10 :: a11 :: a12 :: a13 :: a14 :: a15 :: a16 :: a17 :: z :: r) H QS := q
theorem g19 {a0 a1 a2 a3 a4 a5 a6 a7 a8 a9 a10 a11 a12 a13 a14 a15 a16 a17 a18 : Option V} {z : Option V} {r : L2.St} (q : QS (a0 :: a1 :: a2 :: a3 :: a4 :: a5 :: a6 :: a7 :: a8 :: a9 :: a10 :: a11 :: a12 :: a13 :: a14 :: a15 :: a16 :: a17 :: a18 :: some v :: r) H) : gName 19 v (a0 :: a1 :: a2 :: a3 :: a4 :: a5 :: a6 :: a7 :: a8 :: a9 :: a10 :: a11 :: a12 :: a13 :: a14 :: a15 :: a16 :: a17 :: a18 :: z :: r) H QS := q
theorem g20 {a0 a1 a2 a3 a4 a5 a6 a7 a8 a9 a10 a11 a12 a13 a14 a15 a16 a17 a18 a19 : Option V} {z : Option V} {r : L2.St} (q : QS (a0 :: a1 :: a2 :: a3 :: a4 :: a5 :: a6 :: a7 :: a8 :: a9 :: a10 :: a11 :: a12 :: a13 :: a14 :: a15 :: a16 :: a17 :: a18 :: a19 :: some v :: r) H) : gName 20 v (a0 :: a1 :: a2 :: a3 :: a4 :: a5 :: a6 :: a7 :: a8 :: a9 :: a10 :: a11 :: a12 :: a13 :: a14 :: a15 :: a16 :: a17 :: a18 :: a19 :: z :: r) H QS := q
theorem g21 {a0 a1 a2 a3 a4 a5 a6 a7 a8 a9 a10 a11 a12 a13 a14 a15 a16 a17 a18 a19 a20 : Option V} {z : Option V} {r : L2.St} (q : QS (a0 :: a1 :: a2 :: a3 :: a4 :: a5 :: a6 :: a7 :: a8 :: a9 :: a10 :: a11 :: a12 :: a13 :: a14 :: a15 :: a16 :: a17 :: a18 :: a19 :: a20 :: some v :: r) H) : gName 21 v (a0 :: a1 :: a2 :: a3 :: a4 :: a5 :: a6 :: a7 :: a8 :: a9 :: a10 :: a11 :: a12 :: a13 :: a14 :: a15 :: a16 :: a17 :: a18 :: a19 :: a20 :: z :: r) H QS := q
theorem g22 {a0 a1 a2 a3 a4 a5 a6 a7 a8 a9 a10 a11 a12 a13 a14 a15 a16 a17 a18 a19 a20 a21 : Option V} {z : Option V} {r : L2.St} (q : QS (a0 :: a1 :: a2 :: a3 :: a4 :: a5 :: a6 :: a7 :: a8 :: a9 :: a10 :: a11 :: a12 :: a13 :: a14 :: a15 :: a16 :: a17 :: a18 :: a19 :: a20 :: a21 :: some v :: r) H) : gName 22 v (a0 :: a1 :: a2 :: a3 :: a4 :: a5 :: a6 :: a7 :: a8 :: a9 :: a10 :: a11 :: a12 :: a13 :: a14 :: a15 :: a16 :: a17 :: a18 :: a19 :: a20 :: a21 :: z :: r) H QS := q
theorem g23 {a0 a1 a2 a3 a4 a5 a6 a7 a8 a9 a10 a11 a12 a13 a14 a15 a16 a17 a18 a19 a20 a21 a22 : Option V} {z : Option V} {r : L2.St} (q : QS (a0 :: a1 :: a2 :: a3 :: a4 :: a5 :: a6 :: a7 :: a8 :: a9 :: a10 :: a11 :: a12 :: a13 :: a14 :: a15 :: a16 :: a17 :: a18 :: a19 :: a20 :: a21 :: a22 :: some v :: r) H) : gName 23 v (a0 :: a1 :: a2 :: a3 :: a4 :: a5 :: a6 :: a7 :: a8 :: a9 :: a10 :: a11 :: a12 :: a13 :: a14 :: a15 :: a16 :: a17 :: a18 :: a19 :: a20 :: a21 :: a22 :: z :: r) H QS := q
theorem g24 {a0 a1 a2 a3 a4 a5 a6 a7 a8 a9 a10 a11 a12 a13 a14 a15 a16 a17 a18 a19 a20 a21 a22 a23 : Option V} {z : Option V} {r : L2.St} (q : QS (a0 :: a1 :: a2 :: a3 :: a4 :: a5 :: a6 :: a7 :: a8 :: a9 :: a10 :: a11 :: a12 :: a13 :: a14 :: a15 :: a16 :: a17 :: a18 :: a19 :: a20 :: a21 :: a22 :: a23 :: some v :: r) H) : gName 24 v (a0 :: a1 :: a2 :: a3 :: a4 :: a5 :: a6 :: a7 :: a8 :: a9 :: a10 :: a11 :: a12 :: a13 :: a14 :: a15 :: a16 :: a17 :: a18 :: a19 :: a20 :: a21 :: a22 :: a23 :: z :: r) H QS := q
theorem g25 {a0 a1 a2 a3 a4 a5 a6 a7 a8 a9 a10 a11 a12 a13 a14 a15 a16 a17 a18 a19 a20 a21 a22 a23 a24 : Option V} {z : Option V} {r : L2.St} (q : QS (a0 :: a1 :: a2 :: a3 :: a4 :: a5 :: a6 :: a7 :: a8 :: a9 :: a10 :: a11 :: a12 :: a13 :: a14 :: a15 :: a16 :: a17 :: a18 :: a19 :: a20 :: a21 :: a22 :: a23 :: a24 :: some v :: r) H) : gName 25 v (a0 :: a1 :: a2 :: a3 :: a4 :: a5 :: a6 :: a7 :: a8 :: a9 :: a10 :: a11 :: a12 :: a13 :: a14 :: a15 :: a16 :: a17 :: a18 :: a19 :: a20 :: a21 :: a22 :: a23 :: a24 :: z :: r) H QS := q
end
end R

namespace DP
open PySem PySem.Spec PyProof.Rows L2

def topS (i : Nat) : Stmt := PySem.Challenge.pw_dampspells_k16_bookings_and_tops.main.body.getD i (.Pass ⟨0, 0, 0, 0⟩)
abbrev s_f_wall : Stmt := topS 0
abbrev N_f_wall : List Str := ["k"]
theorem sc_f_wall : FnScope ["k"] ["k"] (defScope s_f_wall) := ⟨rfl, rfl, rfl, by decide +kernel, rfl, by decide +kernel, by decide +kernel⟩
abbrev s_f_check_kind : Stmt := topS 11
abbrev N_f_check_kind : List Str := ["w", "g"]
theorem sc_f_check_kind : FnScope ["w", "g"] ["w", "g"] (defScope s_f_check_kind) := ⟨rfl, rfl, rfl, by decide +kernel, rfl, by decide +kernel, by decide +kernel⟩
abbrev s_f_check_kinds : Stmt := topS 12
abbrev N_f_check_kinds : List Str := ["kinds", "w", "g"]
theorem sc_f_check_kinds : FnScope ["kinds", "w", "g"] ["kinds"] (defScope s_f_check_kinds) := ⟨rfl, rfl, rfl, by decide +kernel, rfl, by decide +kernel, by decide +kernel⟩
abbrev s_f_plain_list : Stmt := topS 13
abbrev N_f_plain_list : List Str := ["kinds", "least", "w", "g", "plain"]
theorem sc_f_plain_list : FnScope ["kinds", "least", "w", "g", "plain"] ["kinds"] (defScope s_f_plain_list) := ⟨rfl, rfl, rfl, by decide +kernel, rfl, by decide +kernel, by decide +kernel⟩
abbrev s_f_is_sound_kind : Stmt := topS 17
abbrev N_f_is_sound_kind : List Str := ["lacquer", "w", "g"]
theorem sc_f_is_sound_kind : FnScope ["lacquer", "w", "g"] ["lacquer", "w", "g"] (defScope s_f_is_sound_kind) := ⟨rfl, rfl, rfl, by decide +kernel, rfl, by decide +kernel, by decide +kernel⟩
abbrev s_f_bad_kinds : Stmt := topS 18
abbrev N_f_bad_kinds : List Str := ["lacquer", "climate", "w", "g"]
theorem sc_f_bad_kinds : FnScope ["lacquer", "climate", "w", "g"] ["lacquer", "climate"] (defScope s_f_bad_kinds) := ⟨rfl, rfl, rfl, by decide +kernel, rfl, by decide +kernel, by decide +kernel⟩
abbrev s_f_fault : Stmt := topS 19
abbrev N_f_fault : List Str := ["lacquer", "w"]
theorem sc_f_fault : FnScope ["lacquer", "w"] ["lacquer", "w"] (defScope s_f_fault) := ⟨rfl, rfl, rfl, by decide +kernel, rfl, by decide +kernel, by decide +kernel⟩
abbrev s_f_is_sound : Stmt := topS 20
abbrev N_f_is_sound : List Str := ["lacquer", "climate"]
theorem sc_f_is_sound : FnScope ["lacquer", "climate"] ["lacquer", "climate"] (defScope s_f_is_sound) := ⟨rfl, rfl, rfl, by decide +kernel, rfl, by decide +kernel, by decide +kernel⟩
abbrev s_f_kind_booking : Stmt := topS 21
abbrev N_f_kind_booking : List Str := ["lacquer", "w", "g", "counting"]
theorem sc_f_kind_booking : FnScope ["lacquer", "w", "g", "counting"] ["lacquer", "w", "g"] (defScope s_f_kind_booking) := ⟨rfl, rfl, rfl, by decide +kernel, rfl, by decide +kernel, by decide +kernel⟩
abbrev s_f_booking_needed : Stmt := topS 22
abbrev N_f_booking_needed : List Str := ["lacquer", "climate", "w", "g"]
theorem sc_f_booking_needed : FnScope ["lacquer", "climate", "w", "g"] ["lacquer", "climate"] (defScope s_f_booking_needed) := ⟨rfl, rfl, rfl, by decide +kernel, rfl, by decide +kernel, by decide +kernel⟩
abbrev s_f_ceil_div : Stmt := topS 24
abbrev N_f_ceil_div : List Str := ["x", "y"]
theorem sc_f_ceil_div : FnScope ["x", "y"] ["x", "y"] (defScope s_f_ceil_div) := ⟨rfl, rfl, rfl, by decide +kernel, rfl, by decide +kernel, by decide +kernel⟩
abbrev s_Lacquer_init : Stmt := inClass (topS 26) 1
abbrev N_Lacquer_init : List Str := ["self", "a", "b"]
theorem sc_Lacquer_init : FnScope ["self", "a", "b"] ["self", "a", "b"] (defScope s_Lacquer_init) := ⟨rfl, rfl, rfl, by decide +kernel, rfl, by decide +kernel, by decide +kernel⟩
abbrev s_Lacquer_slack : Stmt := inClass (topS 26) 2
abbrev N_Lacquer_slack : List Str := ["self"]
theorem sc_Lacquer_slack : FnScope ["self"] ["self"] (defScope s_Lacquer_slack) := ⟨rfl, rfl, rfl, by decide +kernel, rfl, by decide +kernel, by decide +kernel⟩
abbrev s_Lacquer_eq : Stmt := inClass (topS 26) 3
abbrev N_Lacquer_eq : List Str := ["self", "other"]
theorem sc_Lacquer_eq : FnScope ["self", "other"] ["self", "other"] (defScope s_Lacquer_eq) := ⟨rfl, rfl, rfl, by decide +kernel, rfl, by decide +kernel, by decide +kernel⟩
abbrev s_Lacquer_contains : Stmt := inClass (topS 26) 4
abbrev N_Lacquer_contains : List Str := ["self", "step"]
theorem sc_Lacquer_contains : FnScope ["self", "step"] ["self", "step"] (defScope s_Lacquer_contains) := ⟨rfl, rfl, rfl, by decide +kernel, rfl, by decide +kernel, by decide +kernel⟩
abbrev s_Lacquer_spans : Stmt := inClass (topS 26) 5
abbrev N_Lacquer_spans : List Str := ["self", "w"]
theorem sc_Lacquer_spans : FnScope ["self", "w"] ["self", "w"] (defScope s_Lacquer_spans) := ⟨rfl, rfl, rfl, by decide +kernel, rfl, by decide +kernel, by decide +kernel⟩
abbrev s_Lacquer_turns : Stmt := inClass (topS 26) 6
abbrev N_Lacquer_turns : List Str := ["self", "g"]
abbrev s_Lacquer_lead : Stmt := inClass (topS 26) 7
abbrev N_Lacquer_lead : List Str := ["self", "w"]
theorem sc_Lacquer_lead : FnScope ["self", "w"] ["self", "w"] (defScope s_Lacquer_lead) := ⟨rfl, rfl, rfl, by decide +kernel, rfl, by decide +kernel, by decide +kernel⟩
abbrev s_f_check_sight : Stmt := topS 28
abbrev N_f_check_sight : List Str := ["sight"]
theorem sc_f_check_sight : FnScope ["sight"] ["sight"] (defScope s_f_check_sight) := ⟨rfl, rfl, rfl, by decide +kernel, rfl, by decide +kernel, by decide +kernel⟩
abbrev s_Climate_init : Stmt := inClass (topS 30) 0
abbrev N_Climate_init : List Str := ["self", "kinds"]
theorem sc_Climate_init : FnScope ["self", "kinds"] ["self", "kinds"] (defScope s_Climate_init) := ⟨rfl, rfl, rfl, by decide +kernel, rfl, by decide +kernel, by decide +kernel⟩
abbrev s_Climate_need : Stmt := inClass (topS 30) 1
abbrev N_Climate_need : List Str := ["self", "w", "g"]
theorem sc_Climate_need : FnScope ["self", "w", "g"] ["self"] (defScope s_Climate_need) := ⟨rfl, rfl, rfl, by decide +kernel, rfl, by decide +kernel, by decide +kernel⟩
abbrev s_Climate_peak : Stmt := inClass (topS 30) 2
abbrev N_Climate_peak : List Str := ["self", "w", "g"]
theorem sc_Climate_peak : FnScope ["self", "w", "g"] ["self"] (defScope s_Climate_peak) := ⟨rfl, rfl, rfl, by decide +kernel, rfl, by decide +kernel, by decide +kernel⟩
abbrev s_Climate_iter : Stmt := inClass (topS 30) 3
abbrev N_Climate_iter : List Str := ["self"]
theorem sc_Climate_iter : FnScope ["self"] ["self"] (defScope s_Climate_iter) := ⟨rfl, rfl, rfl, by decide +kernel, rfl, by decide +kernel, by decide +kernel⟩
abbrev s_Climate_eq : Stmt := inClass (topS 30) 4
abbrev N_Climate_eq : List Str := ["self", "other"]
theorem sc_Climate_eq : FnScope ["self", "other"] ["self", "other"] (defScope s_Climate_eq) := ⟨rfl, rfl, rfl, by decide +kernel, rfl, by decide +kernel, by decide +kernel⟩
abbrev s_Climate_contains : Stmt := inClass (topS 30) 5
abbrev N_Climate_contains : List Str := ["self", "weather", "lengths", "run", "spell"]
abbrev s_Climate_or : Stmt := inClass (topS 30) 6
abbrev N_Climate_or : List Str := ["self", "other"]
theorem sc_Climate_or : FnScope ["self", "other"] ["self", "other"] (defScope s_Climate_or) := ⟨rfl, rfl, rfl, by decide +kernel, rfl, by decide +kernel, by decide +kernel⟩
abbrev s_Climate_and : Stmt := inClass (topS 30) 7
abbrev N_Climate_and : List Str := ["self", "other", "w", "g", "v", "r"]
theorem sc_Climate_and : FnScope ["self", "other", "w", "g", "v", "r"] ["self", "other"] (defScope s_Climate_and) := ⟨rfl, rfl, rfl, by decide +kernel, rfl, by decide +kernel, by decide +kernel⟩
abbrev s_Climate_dry : Stmt := inClass (topS 30) 8
abbrev N_Climate_dry : List Str := []
abbrev s_Climate_single : Stmt := inClass (topS 30) 9
abbrev N_Climate_single : List Str := ["cls", "w", "g"]
theorem sc_Climate_single : FnScope ["cls", "w", "g"] ["cls", "w", "g"] (defScope s_Climate_single) := ⟨rfl, rfl, rfl, by decide +kernel, rfl, by decide +kernel, by decide +kernel⟩
abbrev s_Climate_longest : Stmt := inClass (topS 30) 10
abbrev N_Climate_longest : List Str := ["self", "run", "w", "g"]
theorem sc_Climate_longest : FnScope ["self", "run", "w", "g"] ["self", "run"] (defScope s_Climate_longest) := ⟨rfl, rfl, rfl, by decide +kernel, rfl, by decide +kernel, by decide +kernel⟩
abbrev s_Climate_least_run : Stmt := inClass (topS 30) 11
abbrev N_Climate_least_run : List Str := ["self", "w"]
abbrev s_f_greatest_seen : Stmt := topS 32
abbrev N_f_greatest_seen : List Str := ["lacquer", "sight"]
theorem sc_f_greatest_seen : FnScope ["lacquer", "sight"] ["lacquer", "sight"] (defScope s_f_greatest_seen) := ⟨rfl, rfl, rfl, by decide +kernel, rfl, by decide +kernel, by decide +kernel⟩
abbrev s_f_greatest_booked : Stmt := topS 33
abbrev N_f_greatest_booked : List Str := ["lacquer", "sight", "kinds", "w", "g"]
theorem sc_f_greatest_booked : FnScope ["lacquer", "sight", "kinds", "w", "g"] ["lacquer", "sight"] (defScope s_f_greatest_booked) := ⟨rfl, rfl, rfl, by decide +kernel, rfl, by decide +kernel, by decide +kernel⟩
abbrev s_f_top_kinds : Stmt := topS 34
abbrev N_f_top_kinds : List Str := ["lacquer", "longest", "many", "j"]
theorem sc_f_top_kinds : FnScope ["lacquer", "longest", "many", "j"] ["lacquer"] (defScope s_f_top_kinds) := ⟨rfl, rfl, rfl, by decide +kernel, rfl, by decide +kernel, by decide +kernel⟩
abbrev s_f_beneath : Stmt := topS 36
abbrev N_f_beneath : List Str := ["one", "other", "w", "g"]
theorem sc_f_beneath : FnScope ["one", "other", "w", "g"] ["one", "other"] (defScope s_f_beneath) := ⟨rfl, rfl, rfl, by decide +kernel, rfl, by decide +kernel, by decide +kernel⟩
abbrev s_l_cell : Stmt := topS 38
abbrev N_l_cell : List Str := ["script", "k"]
theorem sc_l_cell : FnScope ["script", "k"] ["script", "k"] (defScope s_l_cell) := ⟨rfl, rfl, rfl, by decide +kernel, rfl, by decide +kernel, by decide +kernel⟩
abbrev s_l_pool : Stmt := topS 39
abbrev N_l_pool : List Str := ["cell"]
theorem sc_l_pool : FnScope ["cell"] ["cell"] (defScope s_l_pool) := ⟨rfl, rfl, rfl, by decide +kernel, rfl, by decide +kernel, by decide +kernel⟩
abbrev s_l_take : Stmt := topS 40
abbrev N_l_take : List Str := ["pool", "size", "digit", "x"]
theorem sc_l_take : FnScope ["pool", "size", "digit", "x"] ["pool", "size"] (defScope s_l_take) := ⟨rfl, rfl, rfl, by decide +kernel, rfl, by decide +kernel, by decide +kernel⟩
abbrev s_l_up : Stmt := topS 41
abbrev N_l_up : List Str := ["x", "y"]
theorem sc_l_up : FnScope ["x", "y"] ["x", "y"] (defScope s_l_up) := ⟨rfl, rfl, rfl, by decide +kernel, rfl, by decide +kernel, by decide +kernel⟩
abbrev s_l_same : Stmt := topS 42
abbrev N_l_same : List Str := ["actual", "due", "k"]
theorem sc_l_same : FnScope ["actual", "due", "k"] ["actual", "due"] (defScope s_l_same) := ⟨rfl, rfl, rfl, by decide +kernel, rfl, by decide +kernel, by decide +kernel⟩
abbrev s_l_ab : Stmt := topS 43
abbrev N_l_ab : List Str := ["pool", "most", "a"]
theorem sc_l_ab : FnScope ["pool", "most", "a"] ["pool", "most"] (defScope s_l_ab) := ⟨rfl, rfl, rfl, by decide +kernel, rfl, by decide +kernel, by decide +kernel⟩
abbrev s_l_kinds : Stmt := topS 44
abbrev N_l_kinds : List Str := ["pool", "most", "peak", "need", "kinds", "k", "w"]
theorem sc_l_kinds : FnScope ["pool", "most", "peak", "need", "kinds", "k", "w"] ["pool", "most", "peak", "need"] (defScope s_l_kinds) := ⟨rfl, rfl, rfl, by decide +kernel, rfl, by decide +kernel, by decide +kernel⟩
abbrev s_l_lead : Stmt := topS 45
abbrev N_l_lead : List Str := ["a", "b", "w"]
theorem sc_l_lead : FnScope ["a", "b", "w"] ["a", "b", "w"] (defScope s_l_lead) := ⟨rfl, rfl, rfl, by decide +kernel, rfl, by decide +kernel, by decide +kernel⟩
abbrev s_l_sound_kinds : Stmt := topS 46
abbrev N_l_sound_kinds : List Str := ["pool", "ab", "most", "peak", "need", "a", "b", "top", "kinds", "k", "w", "lead"]
theorem sc_l_sound_kinds : FnScope ["pool", "ab", "most", "peak", "need", "a", "b", "top", "kinds", "k", "w", "lead"] ["pool", "ab", "most", "peak", "need"] (defScope s_l_sound_kinds) := ⟨rfl, rfl, rfl, by decide +kernel, rfl, by decide +kernel, by decide +kernel⟩
abbrev s_l_least_run : Stmt := topS 47
abbrev N_l_least_run : List Str := ["kinds", "w", "best", "kind"]
theorem sc_l_least_run : FnScope ["kinds", "w", "best", "kind"] ["kinds", "w"] (defScope s_l_least_run) := ⟨rfl, rfl, rfl, by decide +kernel, rfl, by decide +kernel, by decide +kernel⟩
abbrev s_l_plain : Stmt := topS 48
abbrev N_l_plain : List Str := ["kinds", "plain", "w", "here"]
theorem sc_l_plain : FnScope ["kinds", "plain", "w", "here"] ["kinds"] (defScope s_l_plain) := ⟨rfl, rfl, rfl, by decide +kernel, rfl, by decide +kernel, by decide +kernel⟩
abbrev s_l_wait : Stmt := topS 49
abbrev N_l_wait : List Str := ["ab", "w", "steps", "k"]
theorem sc_l_wait : FnScope ["ab", "w", "steps", "k"] ["ab", "w"] (defScope s_l_wait) := ⟨rfl, rfl, rfl, by decide +kernel, rfl, by decide +kernel, by decide +kernel⟩
abbrev s_l_booked : Stmt := topS 50
abbrev N_l_booked : List Str := ["ab", "kind", "wait", "sight"]
theorem sc_l_booked : FnScope ["ab", "kind", "wait", "sight"] ["ab", "kind", "wait", "sight"] (defScope s_l_booked) := ⟨rfl, rfl, rfl, by decide +kernel, rfl, by decide +kernel, by decide +kernel⟩
abbrev s_l_number : Stmt := topS 51
abbrev N_l_number : List Str := ["ab", "kind", "wait", "sight"]
theorem sc_l_number : FnScope ["ab", "kind", "wait", "sight"] ["ab", "kind"] (defScope s_l_number) := ⟨rfl, rfl, rfl, by decide +kernel, rfl, by decide +kernel, by decide +kernel⟩
abbrev s_l_drawn : Stmt := topS 52
abbrev N_l_drawn : List Str := ["pool", "ab", "way", "kinds", "k", "w"]
theorem sc_l_drawn : FnScope ["pool", "ab", "way", "kinds", "k", "w"] ["pool", "ab"] (defScope s_l_drawn) := ⟨rfl, rfl, rfl, by decide +kernel, rfl, by decide +kernel, by decide +kernel⟩
abbrev s_l_ahead : Stmt := topS 53
abbrev N_l_ahead : List Str := ["pool", "ab", "way", "w", "stretch"]
theorem sc_l_ahead : FnScope ["pool", "ab", "way", "w", "stretch"] ["pool", "ab"] (defScope s_l_ahead) := ⟨rfl, rfl, rfl, by decide +kernel, rfl, by decide +kernel, by decide +kernel⟩
abbrev s_l_odd : Stmt := topS 54
abbrev N_l_odd : List Str := ["pool", "way"]
theorem sc_l_odd : FnScope ["pool", "way"] ["pool"] (defScope s_l_odd) := ⟨rfl, rfl, rfl, by decide +kernel, rfl, by decide +kernel, by decide +kernel⟩
abbrev s_l_no_kind : Stmt := topS 55
abbrev N_l_no_kind : List Str := ["lacquer", "odd", "refused", "kin", "e"]
theorem sc_l_no_kind : FnScope ["lacquer", "odd", "refused", "kin", "e"] ["lacquer", "odd"] (defScope s_l_no_kind) := ⟨rfl, rfl, rfl, by decide +kernel, rfl, by decide +kernel, by decide +kernel⟩
abbrev s_l_no_sight : Stmt := topS 56
abbrev N_l_no_sight : List Str := ["lacquer", "sight", "refused", "kin", "e"]
theorem sc_l_no_sight : FnScope ["lacquer", "sight", "refused", "kin", "e"] ["lacquer", "sight"] (defScope s_l_no_sight) := ⟨rfl, rfl, rfl, by decide +kernel, rfl, by decide +kernel, by decide +kernel⟩
abbrev s_l_highest : Stmt := topS 57
abbrev N_l_highest : List Str := ["ab", "sight", "pairs", "w", "wait", "stretch"]
theorem sc_l_highest : FnScope ["ab", "sight", "pairs", "w", "wait", "stretch"] ["ab", "sight"] (defScope s_l_highest) := ⟨rfl, rfl, rfl, by decide +kernel, rfl, by decide +kernel, by decide +kernel⟩
abbrev s_l_numbers : Stmt := topS 58
abbrev N_l_numbers : List Str := ["lacquer", "climate", "ab", "kinds", "due", "sound", "kind", "number"]
theorem sc_l_numbers : FnScope ["lacquer", "climate", "ab", "kinds", "due", "sound", "kind", "number"] ["lacquer", "climate", "ab", "kinds"] (defScope s_l_numbers) := ⟨rfl, rfl, rfl, by decide +kernel, rfl, by decide +kernel, by decide +kernel⟩
abbrev s_l_tops : Stmt := topS 59
abbrev N_l_tops : List Str := ["lacquer", "climate", "ab", "kinds", "sight", "told", "highest", "below", "worst_here", "wider", "kind"]
theorem sc_l_tops : FnScope ["lacquer", "climate", "ab", "kinds", "sight", "told", "highest", "below", "worst_here", "wider", "kind"] ["lacquer", "climate", "ab", "kinds", "sight"] (defScope s_l_tops) := ⟨rfl, rfl, rfl, by decide +kernel, rfl, by decide +kernel, by decide +kernel⟩
abbrev s_l_asked : Stmt := topS 60
abbrev N_l_asked : List Str := ["ab", "kinds", "sight", "odd", "lacquer", "climate"]
theorem sc_l_asked : FnScope ["ab", "kinds", "sight", "odd", "lacquer", "climate"] ["ab", "kinds", "sight", "odd"] (defScope s_l_asked) := ⟨rfl, rfl, rfl, by decide +kernel, rfl, by decide +kernel, by decide +kernel⟩
abbrev s_l_law : Stmt := topS 61
abbrev N_l_law : List Str := ["script", "pool", "ab", "kinds", "sight", "odd", "other", "more", "farther"]
theorem sc_l_law : FnScope ["script", "pool", "ab", "kinds", "sight", "odd", "other", "more", "farther"] ["script"] (defScope s_l_law) := ⟨rfl, rfl, rfl, by decide +kernel, rfl, by decide +kernel, by decide +kernel⟩
structure S_DampError (K : PySem.W.Frag) (mg : Str → Option Value) (C : Addr) : Prop where
  mg : (mg "DampError" = some (.ref C))
  x : (PySem.W.excIn K C [.type "ValueError", .type "Exception", .type "BaseException", .type "object"] "ValueError.__new__" = true)
  kp : (PySem.W.keepIn K (.ref C) = true)
  b : (PySem.W.subIn K (.ref C) (.type "BaseException") = some true)
  t : (PySem.W.typeIn K (.ref C) = some (.type "type"))
  i : (PySem.W.isClsIn K C = true)
  s : (PySem.W.subIn K (.ref C) (.ref C) = some true)
  hg : (PySem.W.findIn K (.ref C) "__getattribute__" = some (some (.builtin "BaseException.__getattribute__")))
  hk : (PySem.W.findIn K (.ref C) "__getattr__" = some none)
  hd : (PySem.W.hasDictIn K C = true)
  ha : (PySem.W.findIn K (.ref C) "__class__" = some (some (.builtin "object.__class__")))
  hn : (PySem.W.specialIn K (.builtin "object.__class__") "__get__" = some (some (.builtin "getset_descriptor.__get__")))
  ht : (PySem.W.takesIn K (.builtin "object.__class__") = some true)
  hm : (PySem.W.mroIn K C (.type "object") = some true)
theorem S_DampError.ex {K : PySem.W.Frag} {mg : Str → Option Value} {C : Addr} (T : S_DampError K mg C) : ExcC K C := ⟨T.hg, T.hk, T.b, T.hd, T.ha, T.hn, T.ht, T.hm⟩
theorem S_DampError.te {K : PySem.W.Frag} {mg : Str → Option Value} {C : Addr} (T : S_DampError K mg C) : PySem.W.exmOne K (.ref C) (.ref C) = some true := PySem.W.exm_ref T.b T.hd T.t T.s
structure S_BadLacquer (K : PySem.W.Frag) (mg : Str → Option Value) (C : Addr) : Prop where
  mg : (mg "BadLacquer" = some (.ref C))
  x : (PySem.W.excIn K C [.type "ValueError", .type "Exception", .type "BaseException", .type "object"] "ValueError.__new__" = true)
  kp : (PySem.W.keepIn K (.ref C) = true)
  b : (PySem.W.subIn K (.ref C) (.type "BaseException") = some true)
  t : (PySem.W.typeIn K (.ref C) = some (.type "type"))
  i : (PySem.W.isClsIn K C = true)
  s : (PySem.W.subIn K (.ref C) (.ref C) = some true)
  hg : (PySem.W.findIn K (.ref C) "__getattribute__" = some (some (.builtin "BaseException.__getattribute__")))
  hk : (PySem.W.findIn K (.ref C) "__getattr__" = some none)
  hd : (PySem.W.hasDictIn K C = true)
  ha : (PySem.W.findIn K (.ref C) "__class__" = some (some (.builtin "object.__class__")))
  hn : (PySem.W.specialIn K (.builtin "object.__class__") "__get__" = some (some (.builtin "getset_descriptor.__get__")))
  ht : (PySem.W.takesIn K (.builtin "object.__class__") = some true)
  hm : (PySem.W.mroIn K C (.type "object") = some true)
theorem S_BadLacquer.ex {K : PySem.W.Frag} {mg : Str → Option Value} {C : Addr} (T : S_BadLacquer K mg C) : ExcC K C := ⟨T.hg, T.hk, T.b, T.hd, T.ha, T.hn, T.ht, T.hm⟩
theorem S_BadLacquer.te {K : PySem.W.Frag} {mg : Str → Option Value} {C : Addr} (T : S_BadLacquer K mg C) : PySem.W.exmOne K (.ref C) (.ref C) = some true := PySem.W.exm_ref T.b T.hd T.t T.s
structure S_BadKind (K : PySem.W.Frag) (mg : Str → Option Value) (C : Addr) : Prop where
  mg : (mg "BadKind" = some (.ref C))
  x : (PySem.W.excIn K C [.type "ValueError", .type "Exception", .type "BaseException", .type "object"] "ValueError.__new__" = true)
  kp : (PySem.W.keepIn K (.ref C) = true)
  b : (PySem.W.subIn K (.ref C) (.type "BaseException") = some true)
  t : (PySem.W.typeIn K (.ref C) = some (.type "type"))
  i : (PySem.W.isClsIn K C = true)
  s : (PySem.W.subIn K (.ref C) (.ref C) = some true)
  hg : (PySem.W.findIn K (.ref C) "__getattribute__" = some (some (.builtin "BaseException.__getattribute__")))
  hk : (PySem.W.findIn K (.ref C) "__getattr__" = some none)
  hd : (PySem.W.hasDictIn K C = true)
  ha : (PySem.W.findIn K (.ref C) "__class__" = some (some (.builtin "object.__class__")))
  hn : (PySem.W.specialIn K (.builtin "object.__class__") "__get__" = some (some (.builtin "getset_descriptor.__get__")))
  ht : (PySem.W.takesIn K (.builtin "object.__class__") = some true)
  hm : (PySem.W.mroIn K C (.type "object") = some true)
theorem S_BadKind.ex {K : PySem.W.Frag} {mg : Str → Option Value} {C : Addr} (T : S_BadKind K mg C) : ExcC K C := ⟨T.hg, T.hk, T.b, T.hd, T.ha, T.hn, T.ht, T.hm⟩
theorem S_BadKind.te {K : PySem.W.Frag} {mg : Str → Option Value} {C : Addr} (T : S_BadKind K mg C) : PySem.W.exmOne K (.ref C) (.ref C) = some true := PySem.W.exm_ref T.b T.hd T.t T.s
structure S_BadNumber (K : PySem.W.Frag) (mg : Str → Option Value) (C : Addr) : Prop where
  mg : (mg "BadNumber" = some (.ref C))
  x : (PySem.W.excIn K C [.type "ValueError", .type "Exception", .type "BaseException", .type "object"] "ValueError.__new__" = true)
  kp : (PySem.W.keepIn K (.ref C) = true)
  b : (PySem.W.subIn K (.ref C) (.type "BaseException") = some true)
  t : (PySem.W.typeIn K (.ref C) = some (.type "type"))
  i : (PySem.W.isClsIn K C = true)
  s : (PySem.W.subIn K (.ref C) (.ref C) = some true)
  hg : (PySem.W.findIn K (.ref C) "__getattribute__" = some (some (.builtin "BaseException.__getattribute__")))
  hk : (PySem.W.findIn K (.ref C) "__getattr__" = some none)
  hd : (PySem.W.hasDictIn K C = true)
  ha : (PySem.W.findIn K (.ref C) "__class__" = some (some (.builtin "object.__class__")))
  hn : (PySem.W.specialIn K (.builtin "object.__class__") "__get__" = some (some (.builtin "getset_descriptor.__get__")))
  ht : (PySem.W.takesIn K (.builtin "object.__class__") = some true)
  hm : (PySem.W.mroIn K C (.type "object") = some true)
theorem S_BadNumber.ex {K : PySem.W.Frag} {mg : Str → Option Value} {C : Addr} (T : S_BadNumber K mg C) : ExcC K C := ⟨T.hg, T.hk, T.b, T.hd, T.ha, T.hn, T.ht, T.hm⟩
theorem S_BadNumber.te {K : PySem.W.Frag} {mg : Str → Option Value} {C : Addr} (T : S_BadNumber K mg C) : PySem.W.exmOne K (.ref C) (.ref C) = some true := PySem.W.exm_ref T.b T.hd T.t T.s
structure S_TooLarge (K : PySem.W.Frag) (mg : Str → Option Value) (C : Addr) : Prop where
  mg : (mg "TooLarge" = some (.ref C))
  x : (PySem.W.excIn K C [.type "ValueError", .type "Exception", .type "BaseException", .type "object"] "ValueError.__new__" = true)
  kp : (PySem.W.keepIn K (.ref C) = true)
  b : (PySem.W.subIn K (.ref C) (.type "BaseException") = some true)
  t : (PySem.W.typeIn K (.ref C) = some (.type "type"))
  i : (PySem.W.isClsIn K C = true)
  s : (PySem.W.subIn K (.ref C) (.ref C) = some true)
  hg : (PySem.W.findIn K (.ref C) "__getattribute__" = some (some (.builtin "BaseException.__getattribute__")))
  hk : (PySem.W.findIn K (.ref C) "__getattr__" = some none)
  hd : (PySem.W.hasDictIn K C = true)
  ha : (PySem.W.findIn K (.ref C) "__class__" = some (some (.builtin "object.__class__")))
  hn : (PySem.W.specialIn K (.builtin "object.__class__") "__get__" = some (some (.builtin "getset_descriptor.__get__")))
  ht : (PySem.W.takesIn K (.builtin "object.__class__") = some true)
  hm : (PySem.W.mroIn K C (.type "object") = some true)
theorem S_TooLarge.ex {K : PySem.W.Frag} {mg : Str → Option Value} {C : Addr} (T : S_TooLarge K mg C) : ExcC K C := ⟨T.hg, T.hk, T.b, T.hd, T.ha, T.hn, T.ht, T.hm⟩
theorem S_TooLarge.te {K : PySem.W.Frag} {mg : Str → Option Value} {C : Addr} (T : S_TooLarge K mg C) : PySem.W.exmOne K (.ref C) (.ref C) = some true := PySem.W.exm_ref T.b T.hd T.t T.s
structure S_Lacquer (K : PySem.W.Frag) (mg : Str → Option Value) (C : Addr) : Prop where
  pg : (PySem.W.plainGet K C Str.empty = true)
  hd : (PySem.W.hasDictIn K C = true)
  po : (PySem.W.plainOver K C = true)
  sa : (PySem.W.findIn K (.ref C) "__setattr__" = some (some (.builtin "object.__setattr__")))
  mg : (mg "Lacquer" = some (.ref C))
  sf : (PySem.W.selfFirst K C = true)
  nf : (PySem.W.notFirst K C (.ref C) = true)
  ha : (PySem.W.findIn K (.ref C) "__class__" = some (some (.builtin "object.__class__")))
  hn : (PySem.W.specialIn K (.builtin "object.__class__") "__get__" = some (some (.builtin "getset_descriptor.__get__")))
  ht : (PySem.W.takesIn K (.builtin "object.__class__") = some true)
  hm : (PySem.W.mroIn K C (.type "object") = some true)
  kp : (PySem.W.keepIn K (.ref C) = true)
  mkk : (PySem.W.makesIn K C = true)
  v_MOST : (∃ u, PySem.W.findCls K (.ref C) (.type "type") "MOST" = some (.val u) ∧ RelV (.int 12) u)
  rd : (PySem.W.readsIn K C (.type "type") = true)
  ga : (PySem.W.specialIn K (.ref C) "__getattribute__" = some (some (.builtin "type.__getattribute__")))
  n_a : (PySem.W.findIn K (.ref C) "a" = some none)
  n_b : (PySem.W.findIn K (.ref C) "b" = some none)
theorem S_Lacquer.cl {K : PySem.W.Frag} {mg : Str → Option Value} {C : Addr} (T : S_Lacquer K mg C) : Cls K C := ⟨T.pg, T.hd, T.po, T.sa⟩
theorem S_Lacquer.cr {K : PySem.W.Frag} {mg : Str → Option Value} {C : Addr} (T : S_Lacquer K mg C) : ClX.CRead K C (.type "type") := ⟨T.rd, T.ga⟩
theorem S_Lacquer.me {K : PySem.W.Frag} {mg : Str → Option Value} {C : Addr} (_ : S_Lacquer K mg C) : PySem.W.kitOne K (.ref C) (.ref C) = some true := by simp [PySem.W.kitOne]
structure S_Climate (K : PySem.W.Frag) (mg : Str → Option Value) (C : Addr) : Prop where
  pg : (PySem.W.plainGet K C Str.empty = true)
  hd : (PySem.W.hasDictIn K C = true)
  po : (PySem.W.plainOver K C = true)
  sa : (PySem.W.findIn K (.ref C) "__setattr__" = some (some (.builtin "object.__setattr__")))
  mg : (mg "Climate" = some (.ref C))
  sf : (PySem.W.selfFirst K C = true)
  nf : (PySem.W.notFirst K C (.ref C) = true)
  ha : (PySem.W.findIn K (.ref C) "__class__" = some (some (.builtin "object.__class__")))
  hn : (PySem.W.specialIn K (.builtin "object.__class__") "__get__" = some (some (.builtin "getset_descriptor.__get__")))
  ht : (PySem.W.takesIn K (.builtin "object.__class__") = some true)
  hm : (PySem.W.mroIn K C (.type "object") = some true)
  kp : (PySem.W.keepIn K (.ref C) = true)
  mkk : (PySem.W.makesIn K C = true)
  n_kinds : (PySem.W.findIn K (.ref C) "kinds" = some none)
theorem S_Climate.cl {K : PySem.W.Frag} {mg : Str → Option Value} {C : Addr} (T : S_Climate K mg C) : Cls K C := ⟨T.pg, T.hd, T.po, T.sa⟩
theorem S_Climate.me {K : PySem.W.Frag} {mg : Str → Option Value} {C : Addr} (_ : S_Climate K mg C) : PySem.W.kitOne K (.ref C) (.ref C) = some true := by simp [PySem.W.kitOne]
/-- an object that is tracked nowhere ahead stands apart -/
theorem same_new {H H1 : Hp} {p : Addr} {o : HO} (s : Same H H1) (h : H p = none) : Same H (upd H1 p o) := fun b u e => by
  rw [upd_ne (ne_of_none e h)]
  exact s b u e
theorem same_upd {H : Hp} {p : Addr} {o : HO} (h : H p = none) : Same H (upd H p o) := same_new (Same.refl H) h
/-- a pool; a heap in which only the object at a may have changed -/
def PoolAt (H : Hp) (a : Addr) : Prop := ∃ p0 p1 p2 : Int, H a = some (.lst [.int p0, .int p1, .int p2])
def Chg (a : Addr) (H H' : Hp) : Prop := ∀ b o, b ≠ a → H b = some o → H' b = some o
theorem Chg.refl (a : Addr) (H : Hp) : Chg a H H := fun _ _ _ h => h
theorem Chg.trans {a : Addr} {H H1 H2 : Hp} (x : Chg a H H1) (y : Chg a H1 H2) : Chg a H H2 := fun b o n h => y b o n (x b o n h)
theorem Chg.upd {a : Addr} {H : Hp} {o : HO} : Chg a H (upd H a o) := fun b u n h => by
  rw [upd_ne n]
  exact h
theorem Chg.new {a r : Addr} {H H1 : Hp} {o : HO} (x : Chg a H H1) (h : H1 r = none) (ha : (H1 a).isSome = true) : Chg a H (L2.upd H1 r o) := fun b u n e => by
  have e1 := x b u n e
  rw [upd_ne (ne_of_none e1 h)]
  exact e1
theorem PoolAt.some {H : Hp} {a : Addr} (h : PoolAt H a) : (H a).isSome = true := by
  obtain ⟨_, _, _, e⟩ := h
  rw [e]
  rfl
theorem PoolAt.keep {H H' : Hp} {a : Addr} (s : Same H H') (h : PoolAt H a) : PoolAt H' a := by
  obtain ⟨p0, p1, p2, e⟩ := h
  exact ⟨p0, p1, p2, s _ _ e⟩
theorem Same.chg {a : Addr} {H H' : Hp} (s : Same H H') : Chg a H H' := fun b o _ h => s b o h
theorem Chg.free {a r : Addr} {H H' : Hp} (x : Chg a H H') (ha : (H' a).isSome = true) (h : H' r = none) : H r = none := by
  cases q : H r with
  | none => rfl
  | some o =>
    by_cases e : r = a
    · subst e
      rw [h] at ha
      cases ha
    · rw [x r o e q] at h
      cases h
theorem PoolAt.ne {H : Hp} {a r : Addr} (h : PoolAt H a) (n : H r = none) : r ≠ a := by
  rintro rfl
  obtain ⟨_, _, _, e⟩ := h
  rw [n] at e
  cases e

def sp_l_cell (K : PySem.W.Frag) : Sp := fun vs H Q _ => ∃ (a : Addr) (ns : List Int) (k : Nat), vs = [.ref a, .int k] ∧ SqL K H a (ns.map V.int) ∧ ∀ i : Int, Q (.int i) H

def sp_l_pool : Sp := fun vs H Q _ => ∃ (i : Int), vs = [.int i] ∧ ∀ (p : Addr) (p0 p1 p2 : Int), H p = none → Q (.ref p) (upd H p (.lst [.int p0, .int p1, .int p2]))

def sp_l_take : Sp := fun vs H Q _ => ∃ (a : Addr) (n : Int), vs = [.ref a, .int n] ∧ PoolAt H a ∧ 0 < n ∧ n ≤ 1000000 ∧
  ∀ (d : Int) (H' : Hp), 0 ≤ d → d < n → PoolAt H' a → Chg a H H' → Q (.int d) H'

def sp_l_int (K : PySem.W.Frag) : Sp := fun vs H Q _ => ∃ i : Int, vs = [.int i] ∧ Q (.bl true) H

/-- pairs (w, g): the least g of those with a first number of at least w, 0 without any -/
def lr (ks : List (Int × Int)) (w : Int) : Int := ks.foldl (fun best k => if k.1 ≥ w ∧ (best = 0 ∨ k.2 < best) then k.2 else best) 0
def Pos2 (ks : List (Int × Int)) : Prop := ∀ k ∈ ks, 1 ≤ k.2
/-- what the fold has when it starts from a number -/
theorem lr_from {w : Int} : ∀ (ks : List (Int × Int)) (b : Int), Pos2 ks → 0 ≤ b →
    let r := ks.foldl (fun best k => if k.1 ≥ w ∧ (best = 0 ∨ k.2 < best) then k.2 else best) b
    0 ≤ r ∧ (b ≠ 0 → r ≠ 0 ∧ r ≤ b) ∧ (∀ k ∈ ks, k.1 ≥ w → r ≠ 0 ∧ r ≤ k.2) ∧ (r = b ∨ ∃ k ∈ ks, k.1 ≥ w ∧ r = k.2)
  | [], b, _, hb => ⟨hb, fun h => ⟨h, Int.le_refl _⟩, fun _ h => by simp at h, .inl rfl⟩
  | k :: ks, b, hp, hb => by
    have hk := hp k List.mem_cons_self
    have hp' : Pos2 ks := fun x hx => hp x (List.mem_cons_of_mem _ hx)
    have h0 : 0 ≤ (if k.1 ≥ w ∧ (b = 0 ∨ k.2 < b) then k.2 else b) := by split <;> omega
    obtain ⟨i1, i2, i3, i4⟩ := lr_from (w := w) ks _ hp' h0
    simp only [List.foldl_cons]
    refine ⟨i1, fun hb0 => ?_, fun x hx hw => ?_, ?_⟩
    · by_cases c : k.1 ≥ w ∧ (b = 0 ∨ k.2 < b)
      · rw [if_pos c] at i2 ⊢
        obtain ⟨j1, j2⟩ := i2 (by omega)
        exact ⟨j1, by omega⟩
      · rw [if_neg c] at i2 ⊢
        exact i2 hb0
    · rcases List.mem_cons.mp hx with rfl | hx
      · by_cases c : x.1 ≥ w ∧ (b = 0 ∨ x.2 < b)
        · rw [if_pos c] at i2 ⊢
          obtain ⟨j1, j2⟩ := i2 (by omega)
          exact ⟨j1, by omega⟩
        · rw [if_neg c] at i2 ⊢
          obtain ⟨j1, j2⟩ := i2 (by omega)
          exact ⟨j1, by omega⟩
      · exact i3 x hx hw
    · rcases i4 with e | ⟨x, hx, h1, h2⟩
      · by_cases c : k.1 ≥ w ∧ (b = 0 ∨ k.2 < b)
        · rw [if_pos c] at e ⊢
          exact .inr ⟨k, List.mem_cons_self, c.1, e⟩
        · rw [if_neg c] at e ⊢
          exact .inl e
      · exact .inr ⟨x, List.mem_cons_of_mem _ hx, h1, h2⟩
theorem lr_nn {ks : List (Int × Int)} (hp : Pos2 ks) (w : Int) : 0 ≤ lr ks w := (lr_from (w := w) ks 0 hp (by decide)).1
theorem lr_le {ks : List (Int × Int)} (hp : Pos2 ks) {w : Int} {k : Int × Int} (hk : k ∈ ks) (h : w ≤ k.1) : 0 < lr ks w ∧ lr ks w ≤ k.2 := by
  have z := lr_from (w := w) ks 0 hp (by decide)
  have z2 := z.2.2.1 k hk h
  have z1 := z.1
  show 0 < List.foldl _ _ _ ∧ List.foldl _ _ _ ≤ k.2
  exact ⟨by omega, z2.2⟩
theorem lr_mem {ks : List (Int × Int)} (hp : Pos2 ks) {w : Int} (h : 0 < lr ks w) : ∃ k ∈ ks, w ≤ k.1 ∧ lr ks w = k.2 := by
  rcases (lr_from (w := w) ks 0 hp (by decide)).2.2.2 with e | ⟨k, h1, h2, h3⟩
  · exact absurd (show lr ks w = 0 from e) (by omega)
  · exact ⟨k, h1, h2, h3⟩
/-- said without the fold -/
theorem lr_iff {ks : List (Int × Int)} (hp : Pos2 ks) {w r : Int} : lr ks w = r ↔ (r = 0 ∧ ∀ k ∈ ks, k.1 < w) ∨ (0 < r ∧ (∃ k ∈ ks, w ≤ k.1 ∧ k.2 = r) ∧ ∀ k ∈ ks, w ≤ k.1 → r ≤ k.2) := by
  constructor
  · rintro rfl
    by_cases h : 0 < lr ks w
    · obtain ⟨k, h1, h2, h3⟩ := lr_mem hp h
      exact .inr ⟨h, ⟨k, h1, h2, h3.symm⟩, fun k hk hw => (lr_le hp hk hw).2⟩
    · refine .inl ⟨by have := lr_nn hp w; omega, fun k hk => ?_⟩
      rcases Int.lt_or_le k.1 w with c | c
      · exact c
      · exact absurd (lr_le hp hk c).1 h
  · rintro (⟨rfl, h⟩ | ⟨h0, ⟨k, hk, hw, e⟩, h⟩)
    · by_cases c : 0 < lr ks w
      · obtain ⟨k, h1, h2, _⟩ := lr_mem hp c
        have := h k h1
        omega
      · have := lr_nn hp w
        omega
    · obtain ⟨c1, c2⟩ := lr_le hp hk hw
      obtain ⟨k2, h1, h2, h3⟩ := lr_mem hp c1
      have := h k2 h1 h2
      omega
/-- the plain list -/
def keepW (ks : List (Int × Int)) (w : Int) : Bool := decide (0 < lr ks w) && decide (lr ks w ≠ lr ks (w + 1))
def upTo (n : Nat) : List Int := (List.range n).map fun (i : Nat) => (i : Int) + 1
def pl (ks : List (Int × Int)) : List (Int × Int) := ((upTo 16).filter (keepW ks)).map fun w => (w, lr ks w)
theorem lr_mono {ks : List (Int × Int)} (hp : Pos2 ks) {v w : Int} (h : v ≤ w) : lr ks w = 0 ∨ (0 < lr ks v ∧ lr ks v ≤ lr ks w) := by
  by_cases c : 0 < lr ks w
  · obtain ⟨k, h1, h2, h3⟩ := lr_mem hp c
    have := lr_le hp h1 (w := v) (by omega)
    exact .inr ⟨this.1, by omega⟩
  · have := lr_nn hp w
    exact .inl (by omega)
/-- where it turns there is a pair with just this first number -/
theorem keep_mem {ks : List (Int × Int)} (hp : Pos2 ks) {w : Int} (h : keepW ks w = true) : ∃ k ∈ ks, k.1 = w ∧ k.2 = lr ks w := by
  unfold keepW at h
  (simp only [Bool.and_eq_true, decide_eq_true_eq] at h)
  obtain ⟨k, h1, h2, h3⟩ := lr_mem hp h.1
  rcases Int.lt_or_le w k.1 with c | c
  · have z := lr_le hp h1 (w := w + 1) (by omega)
    rcases lr_mono hp (show w ≤ w + 1 by omega) with y | y <;> omega
  · exact ⟨k, h1, by omega, h3.symm⟩
/-- between first numbers nothing turns -/
theorem lr_gap {ks : List (Int × Int)} (hp : Pos2 ks) {v w : Int} (h : v ≤ w) (hn : ∀ k ∈ ks, ¬ (v ≤ k.1 ∧ k.1 < w)) : lr ks v = lr ks w := by
  refine (lr_iff hp).mpr ?_
  by_cases c : 0 < lr ks w
  · obtain ⟨k, h1, h2, h3⟩ := lr_mem hp c
    refine .inr ⟨c, ⟨k, h1, by omega, h3.symm⟩, fun x hx hv => ?_⟩
    rcases Int.lt_or_le x.1 w with d | d
    · exact absurd ⟨hv, d⟩ (hn x hx)
    · exact (lr_le hp hx d).2
  · have z := lr_nn hp w
    refine .inl ⟨by omega, fun k hk => ?_⟩
    rcases Int.lt_or_le k.1 v with d | d
    · exact d
    · rcases Int.lt_or_le k.1 w with e | e
      · exact absurd ⟨d, e⟩ (hn k hk)
      · exact absurd (lr_le hp hk e).1 c
/-- two rising lists with the same items are one -/
theorem rise_ext : ∀ {xs ys : List Int}, xs.Pairwise (· < ·) → ys.Pairwise (· < ·) → (∀ a, a ∈ xs ↔ a ∈ ys) → xs = ys
  | [], [], _, _, _ => rfl
  | [], y :: ys, _, _, h => absurd ((h y).mpr List.mem_cons_self) (by simp)
  | x :: xs, [], _, _, h => absurd ((h x).mp List.mem_cons_self) (by simp)
  | x :: xs, y :: ys, h1, h2, h => by
    rw [List.pairwise_cons] at h1 h2
    have e : x = y := by
      rcases List.mem_cons.mp ((h x).mp List.mem_cons_self) with e | e
      · exact e
      · rcases List.mem_cons.mp ((h y).mpr List.mem_cons_self) with e2 | e2
        · exact e2.symm
        · have a := h1.1 y e2
          have b := h2.1 x e
          omega
    subst e
    rw [rise_ext h1.2 h2.2 fun a => ?_]
    constructor
    · intro ha
      rcases List.mem_cons.mp ((h a).mp (List.mem_cons_of_mem _ ha)) with e | e
      · subst e
        exact absurd (h1.1 a ha) (Int.lt_irrefl _)
      · exact e
    · intro ha
      rcases List.mem_cons.mp ((h a).mpr (List.mem_cons_of_mem _ ha)) with e | e
      · subst e
        exact absurd (h2.1 a ha) (Int.lt_irrefl _)
      · exact e
theorem upTo_mem {n : Nat} {w : Int} : w ∈ upTo n ↔ 1 ≤ w ∧ w ≤ n := by
  unfold upTo
  rw [List.mem_map]
  constructor
  · rintro ⟨i, hi, rfl⟩
    have := List.mem_range.mp hi
    omega
  · rintro ⟨h1, h2⟩
    exact ⟨(w - 1).toNat, List.mem_range.mpr (by omega), by omega⟩
theorem upTo_rise (n : Nat) : (upTo n).Pairwise (· < ·) := by
  unfold upTo
  rw [List.pairwise_map]
  exact List.Pairwise.imp (R := fun a b : Nat => a < b) (fun {a b} (h : a < b) => show (a : Int) + 1 < (b : Int) + 1 by omega) List.pairwise_lt_range
/-- the kept ones of all first numbers are the kept ones of one to sixteen -/
theorem pl_of_keys {ks : List (Int × Int)} (hp : Pos2 ks) (hw : ∀ k ∈ ks, 1 ≤ k.1 ∧ k.1 ≤ 16) {ws : List Int} (hr : ws.Pairwise (· < ·)) (hm : ∀ w, w ∈ ws ↔ ∃ k ∈ ks, k.1 = w) : (ws.filter (keepW ks)).map (fun w => (w, lr ks w)) = pl ks := by
  unfold pl
  congr 1
  refine rise_ext (hr.filter _) ((upTo_rise 16).filter _) fun a => ?_
  rw [List.mem_filter, List.mem_filter, upTo_mem, hm]
  constructor
  · rintro ⟨⟨k, hk, rfl⟩, h⟩
    have := hw k hk
    exact ⟨by omega, h⟩
  · rintro ⟨_, h⟩
    obtain ⟨k, hk, e, _⟩ := keep_mem hp h
    exact ⟨⟨k, hk, e⟩, h⟩
/-- the least second number of the pairs with just this first number -/
def mw (ks : List (Int × Int)) (w : Int) : Option Int := ks.foldl (fun o k => if k.1 = w then some (o.elim k.2 (min k.2)) else o) none
theorem mw_snoc (ks : List (Int × Int)) (k : Int × Int) (w : Int) : mw (ks ++ [k]) w = if k.1 = w then some ((mw ks w).elim k.2 (min k.2)) else mw ks w := by
  unfold mw
  rw [List.foldl_append]
  rfl
theorem mw_spec {w : Int} : ∀ (ks : List (Int × Int)) (o : Option Int), (∀ m, ks.foldl (fun o k => if k.1 = w then some (o.elim k.2 (min k.2)) else o) o = some m →
    (o = some m ∨ ∃ k ∈ ks, k.1 = w ∧ k.2 = m) ∧ (∀ x, o = some x → m ≤ x) ∧ ∀ k ∈ ks, k.1 = w → m ≤ k.2) ∧ (ks.foldl (fun o k => if k.1 = w then some (o.elim k.2 (min k.2)) else o) o = none → o = none ∧ ∀ k ∈ ks, k.1 ≠ w)
  | [], o => ⟨fun m h => ⟨.inl h, fun x hx => by
      have h' : o = some m := h
      rw [hx] at h'
      cases h'
      exact Int.le_refl _, fun _ h => by simp at h⟩, fun h => ⟨h, fun _ h => by simp at h⟩⟩
  | k :: ks, o => by
    obtain ⟨i1, i2⟩ := mw_spec (w := w) ks (if k.1 = w then some (o.elim k.2 (min k.2)) else o)
    simp only [List.foldl_cons]
    constructor
    · intro m hm
      obtain ⟨j1, j2, j3⟩ := i1 m hm
      by_cases c : k.1 = w
      · rw [if_pos c] at j1 j2
        have j2' := j2 _ rfl
        cases o with
        | none =>
          have j4 : m ≤ k.2 := j2'
          refine ⟨?_, ⟨fun x (hx : none = some x) => (nomatch hx), fun x hx hw => ?_⟩⟩
          · rcases j1 with e | ⟨x, hx, h⟩
            · exact .inr ⟨k, List.mem_cons_self, c, Option.some.inj e⟩
            · exact .inr ⟨x, List.mem_cons_of_mem _ hx, h⟩
          · rcases List.mem_cons.mp hx with rfl | hx
            · exact j4
            · exact j3 x hx hw
        | some y =>
          have j4 : m ≤ min k.2 y := j2'
          refine ⟨?_, fun x hx => ?_, fun x hx hw => ?_⟩
          · rcases j1 with e | ⟨x, hx, h⟩
            · have e' : min k.2 y = m := Option.some.inj e
              rcases Int.le_total k.2 y with z | z
              · exact .inr ⟨k, List.mem_cons_self, c, by omega⟩
              · exact .inl (by congr 1; omega)
            · exact .inr ⟨x, List.mem_cons_of_mem _ hx, h⟩
          · cases hx
            omega
          · rcases List.mem_cons.mp hx with rfl | hx
            · omega
            · exact j3 x hx hw
      · rw [if_neg c] at j1 j2
        refine ⟨?_, j2, fun x hx hw => ?_⟩
        · rcases j1 with e | ⟨x, hx, h⟩
          · exact .inl e
          · exact .inr ⟨x, List.mem_cons_of_mem _ hx, h⟩
        · rcases List.mem_cons.mp hx with rfl | hx
          · exact absurd hw c
          · exact j3 x hx hw
    · intro hm
      obtain ⟨j1, j2⟩ := i2 hm
      by_cases c : k.1 = w
      · rw [if_pos c] at j1
        cases j1
      · rw [if_neg c] at j1
        refine ⟨j1, fun x hx => ?_⟩
        (rcases List.mem_cons.mp hx with rfl | hx)
        · exact c
        · exact j2 x hx
theorem mw_some {ks : List (Int × Int)} {w m : Int} (h : mw ks w = some m) : (∃ k ∈ ks, k.1 = w ∧ k.2 = m) ∧ ∀ k ∈ ks, k.1 = w → m ≤ k.2 := by
  obtain ⟨h1, _, h3⟩ := (mw_spec ks none).1 m h
  rcases h1 with h1 | h1
  · cases h1
  · exact ⟨h1, h3⟩
theorem mw_of {ks : List (Int × Int)} {w : Int} (h : ∃ k ∈ ks, k.1 = w) : ∃ m, mw ks w = some m := by
  cases e : mw ks w with
  | some m => exact ⟨m, rfl⟩
  | none =>
    obtain ⟨k, hk, hw⟩ := h
    exact absurd hw (((mw_spec ks none).2 e).2 k hk)
/-- how the least run goes on downwards -/
theorem lr_down {ks : List (Int × Int)} (hp : Pos2 ks) {w m : Int} (h : mw ks w = some m) : lr ks w = if lr ks (w + 1) = 0 then m else min m (lr ks (w + 1)) := by
  obtain ⟨⟨k, hk, e1, e2⟩, h2⟩ := mw_some h
  have hm := hp k hk
  refine (lr_iff hp).mpr (.inr ?_)
  by_cases c : lr ks (w + 1) = 0
  · rw [if_pos c]
    refine ⟨by omega, ⟨k, hk, by omega, e2⟩, fun x hx hw => ?_⟩
    rcases Int.lt_or_le w x.1 with d | d
    · have := (lr_le hp hx (w := w + 1) (by omega)).1
      omega
    · exact h2 x hx (by omega)
  · rw [if_neg c]
    have cp : 0 < lr ks (w + 1) := by have := lr_nn hp (w + 1); omega
    obtain ⟨k2, g1, g2, g3⟩ := lr_mem hp cp
    refine ⟨by omega, ?_, fun x hx hw => ?_⟩
    · rcases Int.le_total m (lr ks (w + 1)) with d | d
      · exact ⟨k, hk, by omega, by omega⟩
      · exact ⟨k2, g1, by omega, by omega⟩
    · rcases Int.lt_or_le w x.1 with d | d
      · have := (lr_le hp hx (w := w + 1) (by omega)).2
        omega
      · have := h2 x hx (by omega)
        omega
/-- the first numbers from above: what has been kept of the first i -/
def stI (ks : List (Int × Int)) (ys : List Int) (i : Nat) : List (Int × Int) := ((ys.take i).filter (keepW ks)).map fun w => (w, lr ks w)
theorem stI_succ {ks : List (Int × Int)} {ys : List Int} {i : Nat} {w : Int} (h : ys[i]? = some w) : stI ks ys (i + 1) = stI ks ys i ++ (if keepW ks w = true then [(w, lr ks w)] else []) := by
  unfold stI
  rw [List.take_add_one, h, List.filter_append, List.map_append]
  congr 1
  show (List.filter (keepW ks) [w]).map _ = _
  by_cases c : keepW ks w = true
  · rw [if_pos c, List.filter_cons_of_pos c]
    rfl
  · rw [if_neg c, List.filter_cons_of_neg c]
    rfl
/-- behind the one at i nothing stands between it and the next one -/
theorem desc_gap {ys : List Int} (hd : ys.Pairwise (· > ·)) {i : Nat} {v w : Int} (h1 : ys[i]? = some v) (h2 : ys[i + 1]? = some w) : w < v ∧ ∀ y ∈ ys, ¬ (w + 1 ≤ y ∧ y < v) := by
  obtain ⟨l1, e1⟩ := List.getElem?_eq_some_iff.mp h1
  obtain ⟨l2, e2⟩ := List.getElem?_eq_some_iff.mp h2
  have hp := List.pairwise_iff_getElem.mp hd
  refine ⟨?_, fun y hy => ?_⟩
  · have := hp i (i + 1) l1 l2 (Nat.lt_succ_self i)
    omega
  · obtain ⟨j, hj, e⟩ := List.mem_iff_getElem.mp hy
    rintro ⟨z1, z2⟩
    rcases Nat.lt_trichotomy j i with c | c | c
    · have := hp j i hj l1 c
      omega
    · subst c
      omega
    · rcases Nat.lt_or_ge (i + 1) j with d | d
      · have := hp (i + 1) j l2 hj d
        omega
      · have : j = i + 1 := by omega
        subst this
        omega
theorem desc_top {ys : List Int} (hd : ys.Pairwise (· > ·)) {w : Int} (h : ys[0]? = some w) : ∀ y ∈ ys, y ≤ w := by
  cases ys with
  | nil => cases h
  | cons z ys =>
    cases h
    intro y hy
    (rcases List.mem_cons.mp hy with rfl | hy)
    · exact Int.le_refl _
    · exact Int.le_of_lt ((List.pairwise_cons.mp hd).1 y hy)
theorem lr_top {ks : List (Int × Int)} (hp : Pos2 ks) {w : Int} (h : ∀ k ∈ ks, k.1 ≤ w) : lr ks (w + 1) = 0 := (lr_iff hp).mpr (.inl ⟨rfl, fun k hk => by have := h k hk; omega⟩)
/-- the turn at the place i: what stands last so far, and what it says -/
theorem st_turn {ks : List (Int × Int)} (hp : Pos2 ks) {ys : List Int} (hd : ys.Pairwise (· > ·)) (hm : ∀ w, w ∈ ys ↔ ∃ k ∈ ks, k.1 = w) : ∀ (i : Nat) (w m : Int), ys[i]? = some w → mw ks w = some m →
    (stI ks ys i = [] ∧ keepW ks w = true ∧ lr ks w = m) ∨ ∃ init v, stI ks ys i = init ++ [v] ∧ ((m < v.2 ∧ keepW ks w = true ∧ lr ks w = m) ∨ (¬ m < v.2 ∧ keepW ks w = false ∧ lr ks w = v.2))
  | 0, w, m, h, e => by
    have top : lr ks (w + 1) = 0 := lr_top hp fun k hk => desc_top hd h _ ((hm _).mpr ⟨k, hk, rfl⟩)
    have dn := lr_down hp e
    rw [if_pos top] at dn
    obtain ⟨⟨k, hk, _, e2⟩, _⟩ := mw_some e
    have := hp k hk
    refine .inl ⟨rfl, ?_, dn⟩
    unfold keepW
    rw [top, dn]
    (simp only [Bool.and_eq_true, decide_eq_true_eq])
    omega
  | i + 1, w, m, h, e => by
    obtain ⟨l, _⟩ := List.getElem?_eq_some_iff.mp h
    obtain ⟨v, hv⟩ : ∃ v, ys[i]? = some v := ⟨_, List.getElem?_eq_getElem (by omega)⟩
    obtain ⟨mv, ev⟩ := mw_of ((hm v).mp (List.mem_of_getElem? hv))
    obtain ⟨g1, g2⟩ := desc_gap hd hv h
    have gap : lr ks (w + 1) = lr ks v := lr_gap hp (by omega) fun k hk => g2 _ ((hm _).mpr ⟨k, hk, rfl⟩)
    obtain ⟨⟨kv, hkv, e3, _⟩, _⟩ := mw_some ev
    have vp := (lr_le hp hkv (w := v) (by omega)).1
    have dn := lr_down hp e
    rw [gap, if_neg (by omega)] at dn
    obtain ⟨⟨k, hk, _, e2⟩, _⟩ := mw_some e
    have mp := hp k hk
    have fin : ∀ {init : List (Int × Int)} {x : Int × Int}, stI ks ys (i + 1) = init ++ [x] → x.2 = lr ks v → (m < x.2 ∧ keepW ks w = true ∧ lr ks w = m) ∨ (¬ m < x.2 ∧ keepW ks w = false ∧ lr ks w = x.2) := by
      intro init x _ ex
      rw [ex]
      by_cases c : m < lr ks v
      · refine .inl ⟨c, ?_, by omega⟩
        unfold keepW
        rw [gap]
        (simp only [Bool.and_eq_true, decide_eq_true_eq])
        omega
      · refine .inr ⟨c, ?_, by omega⟩
        unfold keepW
        rw [gap, show lr ks w = lr ks v by omega]
        simp
    right
    rcases st_turn hp hd hm i v mv hv ev with ⟨s0, kv1, e1⟩ | ⟨init, x, s1, ⟨_, kv1, e1⟩ | ⟨_, kv1, e1⟩⟩
    · have s : stI ks ys (i + 1) = [] ++ [(v, lr ks v)] := by rw [stI_succ hv, s0, if_pos kv1]
      exact ⟨_, _, s, fin s rfl⟩
    · have s : stI ks ys (i + 1) = (init ++ [x]) ++ [(v, lr ks v)] := by rw [stI_succ hv, s1, if_pos kv1]
      exact ⟨_, _, s, fin s rfl⟩
    · have s : stI ks ys (i + 1) = init ++ [x] := by rw [stI_succ hv, s1, if_neg (by rw [kv1]; simp), List.append_nil]
      exact ⟨_, _, s, fin s e1.symm⟩
theorem st_end {ks : List (Int × Int)} (hp : Pos2 ks) (hw : ∀ k ∈ ks, 1 ≤ k.1 ∧ k.1 ≤ 16) {ys : List Int} (hd : ys.Pairwise (· > ·)) (hm : ∀ w, w ∈ ys ↔ ∃ k ∈ ks, k.1 = w) : (stI ks ys ys.length).reverse = pl ks := by
  unfold stI
  rw [List.take_length, ← List.map_reverse, ← List.filter_reverse]
  exact pl_of_keys hp hw (List.pairwise_reverse.mpr hd) fun w => by rw [List.mem_reverse, hm]

/-- tuples stay -/
def TK (H H' : Hp) : Prop := ∀ t xs, H t = some (.tup xs) → H' t = some (.tup xs)
theorem TK.refl (H : Hp) : TK H H := fun _ _ h => h
theorem TK.trans {H H1 H2 : Hp} (a : TK H H1) (b : TK H1 H2) : TK H H2 := fun t xs h => b t xs (a t xs h)
theorem TK.same {H H' : Hp} (s : Same H H') : TK H H' := fun t xs h => s t _ h
theorem TK.upd {H : Hp} {p : Addr} {o : HO} (n : ∀ xs, H p ≠ some (.tup xs)) : TK H (upd H p o) := fun t xs h => by
  rw [upd_ne (fun e => n xs (by rw [← e]; exact h))]
  exact h
theorem TK.lst {H : Hp} {p : Addr} {ys : List V} {o : HO} (h : H p = some (.lst ys)) : TK H (L2.upd H p o) := .upd fun xs e => by
  rw [h] at e
  cases e
theorem TK.dct {H : Hp} {p : Addr} {kvs : List (Key × V)} {o : HO} (h : H p = some (.dK kvs)) : TK H (L2.upd H p o) := .upd fun xs e => by
  rw [h] at e
  cases e
theorem TK.new {H : Hp} {p : Addr} {o : HO} (h : H p = none) : TK H (L2.upd H p o) := .upd fun xs e => by
  rw [h] at e
  cases e
theorem TK.ins {H : Hp} {p C dx : Addr} {fs : List (Str × V)} {o : HO} (h : H p = some (.ins C dx fs)) : TK H (L2.upd H p o) := .upd fun xs e => by
  rw [h] at e
  cases e
theorem TK.chg {H H' : Hp} {a : Addr} (c : Chg a H H') (h : PoolAt H a) : TK H H' := fun t xs e => by
  obtain ⟨_, _, _, z⟩ := h
  exact c t _ (fun q => by rw [q, z] at e; cases e) e
theorem Chg.ins {a p C dx : Addr} {fs : List (Str × V)} {H H' : Hp} (c : Chg a H H') (h : PoolAt H a) (e : H p = some (.ins C dx fs)) : H' p = some (.ins C dx fs) := by
  obtain ⟨_, _, _, z⟩ := h
  exact c p _ (fun q => by rw [q, z] at e; cases e) e
/-- a list of pairs -/
def KVs (H : Hp) (zs : List V) (ks : List (Int × Int)) : Prop := Paired (fun v k => ∃ t, v = V.ref t ∧ H t = some (.tup [.int k.1, .int k.2])) zs ks
theorem pr_keep {α β : Type} {F G : α → β → Prop} : ∀ {xs : List α} {ys : List β}, Paired F xs ys → (∀ a b, F a b → G a b) → Paired G xs ys
  | _, _, .nil, _ => .nil
  | _, _, .cons p q, h => .cons (h _ _ p) (pr_keep q h)
theorem pr_app {α β : Type} {F : α → β → Prop} : ∀ {xs : List α} {ys : List β} {us : List α} {vs : List β}, Paired F xs ys → Paired F us vs → Paired F (xs ++ us) (ys ++ vs)
  | _, _, _, _, .nil, h => h
  | _, _, _, _, .cons p q, h => .cons p (pr_app q h)
theorem pr_rev {α β : Type} {F : α → β → Prop} : ∀ {xs : List α} {ys : List β}, Paired F xs ys → Paired F xs.reverse ys.reverse
  | _, _, .nil => .nil
  | _, _, .cons p q => by
    (rw [List.reverse_cons, List.reverse_cons])
    exact pr_app (pr_rev q) (.cons p .nil)
theorem pr_len {α β : Type} {F : α → β → Prop} {xs : List α} {ys : List β} (h : Paired F xs ys) : xs.length = ys.length := Paired.length h
theorem pr_at {α β : Type} {F : α → β → Prop} : ∀ {xs : List α} {ys : List β} {i : Nat} {x : α}, Paired F xs ys → xs[i]? = some x → ∃ y, ys[i]? = some y ∧ F x y
  | _, _, 0, _, .cons p _, e => by
    cases e
    exact ⟨_, rfl, p⟩
  | _, _, i + 1, x, .cons _ q, e => by
    obtain ⟨y, h1, h2⟩ := pr_at (i := i) (x := x) q (by simpa using e)
    exact ⟨y, by simpa using h1, h2⟩
theorem pr_take {α β : Type} {F : α → β → Prop} : ∀ {xs : List α} {ys : List β} (n : Nat), Paired F xs ys → Paired F (xs.take n) (ys.take n)
  | _, _, 0, _ => .nil
  | _, _, _ + 1, .nil => .nil
  | _, _, n + 1, .cons p q => .cons p (pr_take n q)
theorem pr_drop {α β : Type} {F : α → β → Prop} : ∀ {xs : List α} {ys : List β} (n : Nat), Paired F xs ys → Paired F (xs.drop n) (ys.drop n)
  | _, _, 0, h => h
  | _, _, _ + 1, .nil => .nil
  | _, _, n + 1, .cons _ q => pr_drop n q
theorem KVs.keep {H H' : Hp} {zs : List V} {ks : List (Int × Int)} (h : KVs H zs ks) (k : TK H H') : KVs H' zs ks := pr_keep h fun _ _ ⟨t, e, z⟩ => ⟨t, e, k t _ z⟩
theorem KVs.len {H : Hp} {zs : List V} {ks : List (Int × Int)} (h : KVs H zs ks) : zs.length = ks.length := pr_len h
theorem KVs.at {H : Hp} {zs : List V} {ks : List (Int × Int)} {i : Nat} {x : V} (h : KVs H zs ks) (e : zs[i]? = some x) : ∃ k t, ks[i]? = some k ∧ x = V.ref t ∧ H t = some (.tup [.int k.1, .int k.2]) := by
  obtain ⟨k, h1, t, h2, h3⟩ := pr_at h e
  exact ⟨k, t, h1, h2, h3⟩
theorem KVs.snoc {H H' : Hp} {zs : List V} {ks : List (Int × Int)} {t : Addr} {w g : Int} (h : KVs H zs ks) (k : TK H H') (e : H' t = some (.tup [.int w, .int g])) : KVs H' (zs ++ [.ref t]) (ks ++ [(w, g)]) := pr_app (h.keep k) (.cons ⟨t, rfl, e⟩ .nil)
theorem pr_last {α β : Type} {F : α → β → Prop} : ∀ {xs : List α} {ys : List β} {y : β}, Paired F xs (ys ++ [y]) → ∃ x1 x, xs = x1 ++ [x] ∧ F x y
  | _, [], _, .cons p .nil => ⟨[], _, rfl, p⟩
  | _, _ :: ys, _, .cons p q => by
    obtain ⟨x1, x, e, h⟩ := pr_last q
    exact ⟨_ :: x1, x, congrArg (List.cons _) e, h⟩
theorem KVs.last {H : Hp} {zs : List V} {ks : List (Int × Int)} {x : Int × Int} (h : KVs H zs (ks ++ [x])) : ∃ z1 t, zs = z1 ++ [V.ref t] ∧ H t = some (.tup [.int x.1, .int x.2]) := by
  obtain ⟨z1, v, e, t, ev, ht⟩ := pr_last h
  exact ⟨z1, t, by rw [e, ev], ht⟩
def GoodK (ks : List (Int × Int)) : Prop := ∀ k ∈ ks, 1 ≤ k.1 ∧ k.1 ≤ 16 ∧ 1 ≤ k.2 ∧ k.2 ≤ 120
theorem GoodK.pos {ks : List (Int × Int)} (h : GoodK ks) : Pos2 ks := fun k hk => (h k hk).2.2.1
theorem GoodK.one {ks : List (Int × Int)} (h : GoodK ks) : ∀ k ∈ ks, 1 ≤ k.1 ∧ k.1 ≤ 16 := fun k hk => ⟨(h k hk).1, (h k hk).2.1⟩
theorem GoodK.pl {ks : List (Int × Int)} (h : GoodK ks) : GoodK (pl ks) := fun k hk => by
  obtain ⟨w, hw, rfl⟩ := List.mem_map.mp hk
  obtain ⟨h1, h2⟩ := List.mem_filter.mp hw
  obtain ⟨x, hx, e1, e2⟩ := keep_mem h.pos h2
  have := h x hx
  show 1 ≤ w ∧ w ≤ 16 ∧ 1 ≤ lr ks w ∧ lr ks w ≤ 120
  omega
theorem pl_len (ks : List (Int × Int)) : (pl ks).length ≤ 16 := by
  unfold pl
  rw [List.length_map]
  exact Nat.le_trans (List.length_filter_le _ _) (by unfold upTo; rw [List.length_map, List.length_range]; exact Nat.le_refl _)
/-- data -/
def dP (k : Int × Int) : PyData := .tuple [.int k.1, .int k.2]
theorem KVs.data {K : PySem.W.Frag} {H : Hp} : ∀ {zs : List V} {ks : List (Int × Int)}, KVs H zs ks → DpAll K H zs (ks.map dP)
  | _, _, .nil => .nil
  | _, _, .cons ⟨t, e, h⟩ q => by
    subst e
    exact .cons (.tup (SqT.of h) (.cons (.int _) (.cons (.int _) .nil))) (KVs.data q)

/-- data of this depth at most -/
def Lv : Nat → PyData → Prop
  | 0, _ => False
  | n + 1, .list xs => xs.length ≤ 100000 ∧ ∀ x ∈ xs, Lv n x
  | n + 1, .tuple xs => xs.length ≤ 100000 ∧ ∀ x ∈ xs, Lv n x
  | _ + 1, .dict _ => False
  | _ + 1, _ => True
def sp_l_same (K : PySem.W.Frag) (n : Nat) : Sp := fun vs H Q _ => ∃ (x y : V) (d : PyData), vs = [x, y] ∧ Dp K H x d ∧ Dp K H y d ∧ Lv n d ∧ Q (.bl true) H
theorem zero_l_same {K : PySem.W.Frag} {vs : List V} {H : Hp} {Q : VK} {E : XK} : ¬ sp_l_same K 0 vs H Q E := fun ⟨_, _, _, _, _, _, h, _⟩ => h
theorem dpall_at {K : PySem.W.Frag} {H : Hp} : ∀ {xs : List V} {ds : List PyData} {i : Nat}, DpAll K H xs ds → i < ds.length → ∃ x d, xs[i]? = some x ∧ ds[i]? = some d ∧ Dp K H x d
  | _, _, 0, .cons p _, _ => ⟨_, _, rfl, rfl, p⟩
  | _, _, i + 1, .cons _ q, h => by
    obtain ⟨x, d, h1, h2, h3⟩ := dpall_at (i := i) q (by simpa using h)
    exact ⟨x, d, by simpa using h1, by simpa using h2, h3⟩
theorem dpall_len {K : PySem.W.Frag} {H : Hp} : ∀ {xs : List V} {ds : List PyData}, DpAll K H xs ds → xs.length = ds.length
  | _, _, .nil => rfl
  | _, _, .cons _ q => congrArg (· + 1) (dpall_len q)
theorem lenS2 {K : PySem.W.Frag} {H : Hp} {Q : VK} {p : Addr} {xs : List V} (h : SqL K H p xs ∨ SqT K H p xs) (q : Q (.int xs.length) H) : OW.wLen K [.ref p] H Q := ⟨p, xs, rfl, h, q⟩
theorem ixS2 {K : PySem.W.Frag} {H : Hp} {Q : VK} {p : Addr} {xs : List V} {i : Nat} {v : V} (h : SqL K H p xs ∨ SqT K H p xs) (e : xs[i]? = some v) (q : Q v H) : rIx K (.ref p) (.int (0 + i)) H Q := by
  rw [Int.zero_add]
  rcases h with h | h
  · exact .inl ⟨p, xs, i, v, rfl, rfl, h, atI_nat e, q⟩
  · exact .inr (.inl ⟨p, xs, i, v, rfl, rfl, h, atI_nat e, q⟩)
theorem inv_non {K : PySem.W.Frag} {H : Hp} {x : V} (h : Dp K H x .none) : x = .non := by
  cases h
  rfl
theorem inv_bl {K : PySem.W.Frag} {H : Hp} {x : V} {b : Bool} (h : Dp K H x (.bool b)) : x = .bl b := by
  cases h
  rfl
theorem inv_int {K : PySem.W.Frag} {H : Hp} {x : V} {b : Int} (h : Dp K H x (.int b)) : x = .int b := by
  cases h
  rfl
theorem inv_str {K : PySem.W.Frag} {H : Hp} {x : V} {b : Str} (h : Dp K H x (.str b)) : x = .str b := by
  cases h
  rfl
theorem inv_dict {K : PySem.W.Frag} {H : Hp} {x : V} {b : List (PyData × PyData)} (h : Dp K H x (.dict b)) : False := by cases h
theorem tyX_L {K : PySem.W.Frag} {H : Hp} {a : Addr} {xs : List V} (h : SqL K H a xs) : TyX K H (.ref a) (.type "list") := by
  rcases h with (h | ⟨o, h⟩) | ⟨o, its, n, h, c, _⟩
  · exact .base (.lst h)
  · exact .base (.frz h)
  · exact .kList h c
theorem tyX_T {K : PySem.W.Frag} {H : Hp} {a : Addr} {xs : List V} (h : SqT K H a xs) : TyX K H (.ref a) (.type "tuple") := by
  rcases h with (h | ⟨o, h⟩) | ⟨o, its, n, h, c, _⟩
  · exact .base (.tup h)
  · exact .fTuple h
  · exact .kTuple h c
theorem inv_list {K : PySem.W.Frag} {H : Hp} {x : V} {ds : List PyData} (h : Dp K H x (.list ds)) : ∃ a xs, x = .ref a ∧ (SqL K H a xs ∨ SqT K H a xs) ∧ TyX K H (.ref a) (.type "list") ∧ DpAll K H xs ds := by
  cases h with
  | lst h1 h2 => exact ⟨_, _, rfl, .inl h1, tyX_L h1, h2⟩
theorem inv_tuple {K : PySem.W.Frag} {H : Hp} {x : V} {ds : List PyData} (h : Dp K H x (.tuple ds)) : ∃ a xs, x = .ref a ∧ (SqL K H a xs ∨ SqT K H a xs) ∧ TyX K H (.ref a) (.type "tuple") ∧ DpAll K H xs ds := by
  cases h with
  | tup h1 h2 => exact ⟨_, _, rfl, .inr h1, tyX_T h1, h2⟩

def LacAt (C : Addr) (H : Hp) (p : Addr) (a b : Int) : Prop := ∃ dx, H p = some (.ins C dx [("a", .int a), ("b", .int b)])
theorem LacAt.same {C p : Addr} {a b : Int} {H H' : Hp} (h : LacAt C H p a b) (s : Same H H') : LacAt C H' p a b := let ⟨dx, e⟩ := h; ⟨dx, s _ _ e⟩
theorem LacAt.chg {C p r : Addr} {a b : Int} {H H' : Hp} (h : LacAt C H p a b) (c : Chg r H H') (hP : PoolAt H r) : LacAt C H' p a b := let ⟨dx, e⟩ := h; ⟨dx, c.ins hP e⟩
/-- the least number of steps of y that reach x -/
def cd (x y : Int) : Int := -((-x) / y)
theorem cd_spec {x y : Int} (hy : 0 < y) : (cd x y - 1) * y < x ∧ x ≤ cd x y * y := by
  unfold cd
  have h1 := Int.ediv_mul_le (-x) (show y ≠ 0 by omega)
  have h2 := Int.lt_ediv_add_one_mul_self (-x) hy
  rw [Int.sub_mul, Int.neg_mul, Int.one_mul]
  (rw [Int.add_mul, Int.one_mul] at h2)
  omega
theorem cd_one {x y n : Int} (hy : 0 < y) (h1 : (n - 1) * y < x) (h2 : x ≤ n * y) : cd x y = n := by
  obtain ⟨g1, g2⟩ := cd_spec (x := x) hy
  have l1 : (cd x y - 1) * y < n * y := by omega
  have l2 : (n - 1) * y < cd x y * y := by omega
  have := Int.lt_of_mul_lt_mul_right l1 (by omega)
  have := Int.lt_of_mul_lt_mul_right l2 (by omega)
  omega
theorem cd_pos {x y : Int} (hy : 0 < y) (hx : 0 < x) : 1 ≤ cd x y := by
  obtain ⟨_, g2⟩ := cd_spec (x := x) hy
  rcases Int.lt_or_le (cd x y) 1 with c | c
  · have : cd x y * y ≤ 0 := Int.mul_nonpos_of_nonpos_of_nonneg (by omega) (by omega)
    omega
  · exact c
theorem cd_le {x y : Int} (hy : 0 < y) (hx : 0 < x) : cd x y ≤ x := by
  obtain ⟨g1, _⟩ := cd_spec (x := x) hy
  rcases Int.lt_or_le x (cd x y) with c | c
  · have : x * 1 ≤ (cd x y - 1) * y := Int.mul_le_mul (by omega) (by omega) (by omega) (by omega)
    omega
  · exact c
/-- the lead -/
def ldd (a b w : Int) : Int := (cd w (b - a) - 1) * a
theorem ldd_nn {a b w : Int} (ha : 1 ≤ a) (hab : a < b) (hw : 1 ≤ w) : 0 ≤ ldd a b w := Int.mul_nonneg (by have := cd_pos (x := w) (y := b - a) (by omega) (by omega); omega) (by omega)
theorem ldd_le {a b w : Int} (ha : 1 ≤ a) (hab : a < b) (hw : 1 ≤ w) : ldd a b w ≤ (w - 1) * a := Int.mul_le_mul_of_nonneg_right (by have := cd_le (x := w) (y := b - a) (by omega) (by omega); omega) (by omega)
def ClimAt (C : Addr) (H : Hp) (p : Addr) (ks : List (Int × Int)) : Prop := ∃ dx t zs, H p = some (.ins C dx [("kinds", .ref t)]) ∧ H t = some (.tup zs) ∧ KVs H zs ks
theorem ClimAt.same {C p : Addr} {ks : List (Int × Int)} {H H' : Hp} (h : ClimAt C H p ks) (s : Same H H') : ClimAt C H' p ks := let ⟨dx, t, zs, e1, e2, e3⟩ := h; ⟨dx, t, zs, s _ _ e1, s _ _ e2, e3.keep (.same s)⟩
theorem ClimAt.chg {C p r : Addr} {ks : List (Int × Int)} {H H' : Hp} (h : ClimAt C H p ks) (c : Chg r H H') (hP : PoolAt H r) : ClimAt C H' p ks :=
  let ⟨dx, t, zs, e1, e2, e3⟩ := h; ⟨dx, t, zs, c.ins hP e1, TK.chg c hP _ _ e2, e3.keep (.chg c hP)⟩

def sp_f_ceil_div : Sp := fun vs H Q _ => ∃ x y : Int, vs = [.int x, .int y] ∧ 0 < y ∧ y < 1000 ∧ Q (.int (cd x y)) H

def sp_Lacquer_init (C : Addr) : Sp := fun vs H Q _ => ∃ (x dx : Addr) (a b : Int), vs = [.ref x, .int a, .int b] ∧ H x = some (.ins C dx []) ∧ 1 ≤ a ∧ a < b ∧ b ≤ 12 ∧ Q .non (upd H x (.ins C dx [("a", .int a), ("b", .int b)]))

def sp_Lacquer_slack (C : Addr) : Sp := fun vs H Q _ => ∃ (p : Addr) (a b : Int), vs = [.ref p] ∧ LacAt C H p a b ∧ Q (.int (b - a)) H

def sp_Lacquer_spans (C : Addr) : Sp := fun vs H Q _ => ∃ (p : Addr) (a b w : Int), vs = [.ref p, .int w] ∧ LacAt C H p a b ∧ 1 ≤ a ∧ a < b ∧ b ≤ 12 ∧ 0 ≤ w ∧ Q (.int (cd w (b - a))) H

def sp_Lacquer_lead (C : Addr) : Sp := fun vs H Q _ => ∃ (p : Addr) (a b w : Int), vs = [.ref p, .int w] ∧ LacAt C H p a b ∧ 1 ≤ a ∧ a < b ∧ b ≤ 12 ∧ 1 ≤ w ∧ w ≤ 100000 ∧ Q (.int (ldd a b w)) H

def Small (i : Int) : Prop := -100000 ≤ i ∧ i ≤ 100000
theorem Small.len {i : Int} (h : Small i) : (Str.ofString (toString i)).length ≤ 701 ∧ i.natAbs.log2 < 1920 := by
  obtain ⟨h1, h2⟩ := h
  have : i.natAbs < 2 ^ 20 := by omega
  refine ⟨?_, R.l2 this (by decide) (by decide)⟩
  rw [PySem.ofString_length]
  exact PySem.int_text_length_le (by decide) (PySem.Flt.log2_lt_of (by decide) (Nat.lt_of_lt_of_le this (Nat.pow_le_pow_right (by decide) (by decide : 20 ≤ 700))))
theorem kind_text {w g : Int} (hw : Small w) (hg : Small g) {H : Hp} {Q : Str → Hp → Prop} (q : ∀ out, Q out H) :
    tJs [tC (.str "("), tUn OW.wFmt (tVar 0), tC (.str ", "), tUn OW.wFmt (tVar 1), tC (.str ") is not a kind")] Str.empty [some (.int w), some (.int g)] H Q := by
  obtain ⟨lw, ww⟩ := hw.len
  obtain ⟨lg, wg⟩ := hg.len
  have z0 : Str.empty.length = 0 := rfl
  have z1 : (("(" : Str)).length = 1 := rfl
  have z2 : ((", " : Str)).length = 2 := rfl
  have z3 : ((") is not a kind" : Str)).length = 15 := rfl
  have ez := sizeLine_eq
  refine ⟨_, rfl, ?_, ⟨.int w, rfl, .inr ⟨w, rfl, ww, ⟨_, rfl, ?_, ⟨_, rfl, ?_, ⟨.int g, rfl, .inr ⟨g, rfl, wg, ⟨_, rfl, ?_, ⟨_, rfl, ?_, q _⟩⟩⟩⟩⟩⟩⟩⟩⟩
  all_goals
    simp only [Str.length_append]
    omega
def sp_f_check_kind (CK : Addr) : Sp := fun vs H Q E => ∃ w g : Int, vs = [.int w, .int g] ∧ Small w ∧ Small g ∧ (¬ (1 ≤ w ∧ w ≤ 16 ∧ 1 ≤ g ∧ g ≤ 120) → E (.ref CK) none H) ∧ (1 ≤ w ∧ w ≤ 16 ∧ 1 ≤ g ∧ g ≤ 120 → Q .non H)

def sp_f_check_kinds (K : PySem.W.Frag) : Sp := fun vs H Q _ => ∃ (l : Addr) (ys : List V) (ks : List (Int × Int)), vs = [.ref l] ∧ SqL K H l ys ∧ KVs H ys ks ∧ ks.length ≤ 300 ∧ GoodK ks ∧ Q .non H

/-- what the dict knows of the pairs -/
def DI (ks : List (Int × Int)) (kvs : List (Key × V)) : Prop := ∃ ws : List Int, kvs.map (·.1) = ws.map Sum.inl ∧ ws.Nodup ∧ (∀ w, w ∈ ws ↔ ∃ k ∈ ks, k.1 = w) ∧ (∀ w, valV kvs (Sum.inl w) = (mw ks w).map V.int) ∧ ws.length ≤ ks.length
theorem DI.val {ks : List (Int × Int)} {kvs : List (Key × V)} (h : DI ks kvs) (w : Int) : valV kvs (Sum.inl w) = (mw ks w).map V.int := let ⟨_, _, _, _, z, _⟩ := h; z w
theorem DI.nil : DI [] [] := ⟨[], rfl, .nil, fun w => by simp, fun w => rfl, by simp⟩
theorem valV_mem {kvs : List (Key × V)} {k : Key} : (∃ v, valV kvs k = some v) ↔ k ∈ kvs.map (·.1) := by
  induction kvs with
  | nil => simp [valV]
  | cons p r ih =>
    by_cases e : p.1 = k
    · rw [valV_pos e]
      simp [e]
    · rw [valV_neg e, ih, List.map_cons, List.mem_cons]
      exact ⟨.inr, fun h => h.elim (fun z => absurd z.symm e) id⟩
theorem putK_in {kvs : List (Key × V)} {k : Key} {v : V} (h : k ∈ kvs.map (·.1)) : (putK kvs k v).map (·.1) = kvs.map (·.1) := by
  unfold putK
  have h1 : (kvs.any fun kv => decide (kv.1 = k)) = true := by
    rw [List.any_eq_true]
    obtain ⟨kv, a, b⟩ := List.mem_map.mp h
    exact ⟨kv, a, by simp [b]⟩
  rw [if_pos h1, List.map_map]
  refine List.map_congr_left fun kv _ => ?_
  show (if kv.1 = k then (kv.1, v) else kv).1 = kv.1
  split <;> rfl
theorem putK_out {kvs : List (Key × V)} {k : Key} {v : V} (h : ¬ k ∈ kvs.map (·.1)) : (putK kvs k v).map (·.1) = kvs.map (·.1) ++ [k] := by
  have : valV kvs k = none := by
    cases e : valV kvs k with
    | none => rfl
    | some v => exact absurd (valV_mem.mp ⟨v, e⟩) h
  rw [putK_new v this, List.map_append]
  rfl
theorem DI.put {ks : List (Int × Int)} {kvs : List (Key × V)} {k : Int × Int} (h : DI ks kvs) : DI (ks ++ [k]) (putK kvs (Sum.inl k.1) (.int ((mw ks k.1).elim k.2 (min k.2)))) := by
  obtain ⟨ws, h1, h2, h3, h4, h5⟩ := h
  have hin : (Sum.inl k.1 : Key) ∈ kvs.map (·.1) ↔ k.1 ∈ ws := by
    rw [h1, List.mem_map]
    constructor
    · rintro ⟨x, hx, e⟩
      cases e
      exact hx
    · exact fun h => ⟨_, h, rfl⟩
  have val : ∀ w, valV (putK kvs (Sum.inl k.1) (.int ((mw ks k.1).elim k.2 (min k.2)))) (Sum.inl w) = (mw (ks ++ [k]) w).map V.int := fun w => by
    rw [valV_put, mw_snoc]
    by_cases e : k.1 = w
    · subst e
      rw [if_pos rfl, if_pos rfl]
      rfl
    · rw [if_neg (fun z => e (Sum.inl.inj z).symm), if_neg e, h4]
  by_cases c : k.1 ∈ ws
  · refine ⟨ws, by rw [putK_in (hin.mpr c), h1], h2, fun w => ?_, val, by simp; omega⟩
    rw [h3]
    constructor
    · rintro ⟨x, hx, e⟩
      exact ⟨x, List.mem_append_left _ hx, e⟩
    · rintro ⟨x, hx, e⟩
      (rcases List.mem_append.mp hx with hx | hx)
      · exact ⟨x, hx, e⟩
      · have e2 : x = k := by simpa using hx
        subst e2
        rw [← e]
        exact (h3 _).mp c
  · refine ⟨ws ++ [k.1], by rw [putK_out (fun z => c (hin.mp z)), h1, List.map_append]; rfl, ?_, fun w => ?_, val, by simp; omega⟩
    · rw [List.nodup_append]
      refine ⟨h2, by simp, fun a ha b hb => ?_⟩
      have e2 : b = k.1 := by simpa using hb
      subst e2
      exact fun z => c (z ▸ ha)
    · rw [List.mem_append, h3]
      constructor
      · rintro (⟨x, hx, e⟩ | hx)
        · exact ⟨x, List.mem_append_left _ hx, e⟩
        · have e2 : w = k.1 := by simpa using hx
          exact ⟨k, by simp, e2.symm⟩
      · rintro ⟨x, hx, e⟩
        (rcases List.mem_append.mp hx with hx | hx)
        · exact .inl ⟨x, hx, e⟩
        · have e2 : x = k := by simpa using hx
          subst e2
          exact .inr (by simp [e])
theorem max_py {i j : Int} : (if j > i then j else i) = max i j := by split <;> omega
theorem min_py {i j : Int} : (if j < i then j else i) = min i j := by split <;> omega
def sp_f_plain_list (K : PySem.W.Frag) : Sp := fun vs H Q _ => ∃ (l : Addr) (ys : List V) (ks : List (Int × Int)), vs = [.ref l] ∧ SqL K H l ys ∧ KVs H ys ks ∧ ks.length ≤ 300 ∧ GoodK ks ∧
  ∀ (r : Addr) (zs : List V) (H' : Hp), Same H H' → H r = none → H' r = some (.lst zs) → KVs H' zs (pl ks) → Q (.ref r) H'

def sp_Climate_init (K : PySem.W.Frag) (C : Addr) : Sp := fun vs H Q _ => ∃ (x dx l : Addr) (ys : List V) (ks : List (Int × Int)), vs = [.ref x, .ref l] ∧ H x = some (.ins C dx []) ∧ SqL K H l ys ∧ KVs H ys ks ∧ ks.length ≤ 300 ∧ GoodK ks ∧
  ∀ (t : Addr) (zs : List V) (H' : Hp), Chg x H H' → H' x = some (.ins C dx [("kinds", .ref t)]) → H' t = some (.tup zs) → KVs H' zs (pl ks) → Q .non H'

def sp_Climate_iter (K : PySem.W.Frag) (C : Addr) (n : Nat) : Sp := fun vs H Q _ => ∃ (p dx t : Addr) (zs : List V), vs = [.ref p] ∧ H p = some (.ins C dx [("kinds", .ref t)]) ∧ SqT K H t zs ∧ ∀ it, H it = none → n ≤ it → Q (.ref it) (upd H it (OW.TIt t it))
/-- the walk over a climate -/
theorem clim_walk {K : PySem.W.Frag} {C p : Addr} {H : Hp} {A : Addr → Prop} {dx t : Addr} {zs : List V} (h : H p = some (.ins C dx [("kinds", .ref t)])) (ht : H t = some (.tup zs)) (q : A t) :
    ∀ n, sp_Climate_iter K C n [.ref p] H (fun v G2 => ∃ it t, v = V.ref it ∧ n ≤ it ∧ H it = none ∧ G2 = upd H it (OW.TIt t it) ∧ A t) E0 :=
  fun n => ⟨p, dx, t, zs, rfl, h, SqT.of ht, fun it fr y => ⟨it, t, rfl, y, fr, rfl, q⟩⟩

def sndB (a b : Int) (k : Int × Int) : Bool := decide (k.1 < b) && decide (ldd a b k.1 < k.2)
def wordB (b w : Int) : Str := if w ≥ b then "long" else "close"
def badL (a b : Int) (ks : List (Int × Int)) : List (Int × Int × Str) := (ks.filter fun k => !sndB a b k).map fun k => (k.1, k.2, wordB b k.1)
theorem badL_snoc (a b : Int) (ks : List (Int × Int)) (k : Int × Int) : badL a b (ks ++ [k]) = badL a b ks ++ (if sndB a b k = true then [] else [(k.1, k.2, wordB b k.1)]) := by
  unfold badL
  rw [List.filter_append, List.map_append]
  congr 1
  by_cases c : sndB a b k = true
  · rw [if_pos c, List.filter_cons_of_neg (by simp [c])]
    rfl
  · rw [if_neg c, List.filter_cons_of_pos (by simp [c])]
    rfl
theorem take_snoc {α : Type} {xs : List α} {i : Nat} {x : α} (h : xs[i]? = some x) : xs.take i ++ [x] = xs.take (i + 1) := by
  rw [List.take_add_one, h]
  rfl
def Trs (H : Hp) (zs : List V) (L : List (Int × Int × Str)) : Prop := Paired (fun v x => ∃ t, v = V.ref t ∧ H t = some (.tup [.int x.1, .int x.2.1, .str x.2.2])) zs L
theorem Trs.keep {H H' : Hp} {zs : List V} {L : List (Int × Int × Str)} (h : Trs H zs L) (k : TK H H') : Trs H' zs L := pr_keep h fun _ _ ⟨t, e, z⟩ => ⟨t, e, k t _ z⟩
theorem Trs.snoc {H H' : Hp} {zs : List V} {L : List (Int × Int × Str)} {t : Addr} {w g : Int} {s : Str} (h : Trs H zs L) (k : TK H H') (e : H' t = some (.tup [.int w, .int g, .str s])) : Trs H' (zs ++ [.ref t]) (L ++ [(w, g, s)]) := pr_app (h.keep k) (.cons ⟨t, rfl, e⟩ .nil)
def dT (x : Int × Int × Str) : PyData := .tuple [.int x.1, .int x.2.1, .str x.2.2]
theorem Trs.data {K : PySem.W.Frag} {H : Hp} : ∀ {zs : List V} {L : List (Int × Int × Str)}, Trs H zs L → DpAll K H zs (L.map dT)
  | _, _, .nil => .nil
  | _, _, .cons ⟨t, e, h⟩ q => by
    subst e
    exact .cons (.tup (SqT.of h) (.cons (.int _) (.cons (.int _) (.cons (.str _) .nil)))) (Trs.data q)
theorem badL_len {a b : Int} {ks : List (Int × Int)} : (badL a b ks).length ≤ ks.length := by
  unfold badL
  rw [List.length_map]
  exact List.length_filter_le _ _
theorem lvT {n : Nat} (L : List (Int × Int × Str)) (h : L.length ≤ 100000) : Lv (n + 3) (.list (L.map dT)) := by
  refine ⟨by rw [List.length_map]; exact h, fun x hx => ?_⟩
  obtain ⟨y, _, rfl⟩ := List.mem_map.mp hx
  refine ⟨by show 3 ≤ 100000; decide, fun z hz => ?_⟩
  simp only [List.mem_cons, List.not_mem_nil, or_false] at hz
  rcases hz with rfl | rfl | rfl <;> trivial

def sp_f_is_sound_kind (C : Addr) : Sp := fun vs H Q _ => ∃ (p : Addr) (a b w g : Int), vs = [.ref p, .int w, .int g] ∧ LacAt C H p a b ∧ 1 ≤ a ∧ a < b ∧ b ≤ 12 ∧ 1 ≤ w ∧ w ≤ 100000 ∧ Q (.bl (sndB a b (w, g))) H

def sp_f_fault (C : Addr) : Sp := fun vs H Q _ => ∃ (p : Addr) (a b w : Int), vs = [.ref p, .int w] ∧ LacAt C H p a b ∧ Q (.str (wordB b w)) H

def sp_f_bad_kinds (C D : Addr) : Sp := fun vs H Q _ => ∃ (p c : Addr) (a b : Int) (ks : List (Int × Int)), vs = [.ref p, .ref c] ∧ LacAt C H p a b ∧ 1 ≤ a ∧ a < b ∧ b ≤ 12 ∧ ClimAt D H c ks ∧ GoodK ks ∧ ks.length ≤ 16 ∧
  ∀ (r : Addr) (zs : List V) (H' : Hp), Same H H' → H r = none → H' r = some (.lst zs) → Trs H' zs (badL a b ks) → Q (.ref r) H'

def sp_f_is_sound (C D : Addr) : Sp := fun vs H Q _ => ∃ (p c : Addr) (a b : Int) (ks : List (Int × Int)), vs = [.ref p, .ref c] ∧ LacAt C H p a b ∧ 1 ≤ a ∧ a < b ∧ b ≤ 12 ∧ ClimAt D H c ks ∧ GoodK ks ∧ ks.length ≤ 16 ∧
  ∀ H' : Hp, Same H H' → Q (.bl (badL a b ks).isEmpty) H'
theorem pr_empty {α β : Type} {F : α → β → Prop} {xs : List α} {ys : List β} (h : Paired F xs ys) : xs.isEmpty = ys.isEmpty := by
  cases h with
  | nil => rfl
  | cons _ _ => rfl

def leadsL (a b : Int) (ks : List (Int × Int)) : List Int := ks.map fun k => ldd a b k.1
def sp_f_lead_of (K : PySem.W.Frag) (C D : Addr) : Sp := fun vs H Q _ => ∃ (p c : Addr) (a b : Int) (ks : List (Int × Int)), vs = [.ref p, .ref c] ∧ LacAt C H p a b ∧ 1 ≤ a ∧ a < b ∧ b ≤ 12 ∧ ClimAt D H c ks ∧ GoodK ks ∧ ks.length ≤ 16 ∧
  ∀ H' : Hp, Same H H' → Q (.int (OW.maxL 0 (leadsL a b ks))) H'

def sp_f_sight_needed (K : PySem.W.Frag) (C D : Addr) : Sp := fun vs H Q _ => ∃ (p c : Addr) (a b : Int) (ks : List (Int × Int)), vs = [.ref p, .ref c] ∧ LacAt C H p a b ∧ 1 ≤ a ∧ a < b ∧ b ≤ 12 ∧ ClimAt D H c ks ∧ GoodK ks ∧ ks.length ≤ 16 ∧
  ∀ H' : Hp, Same H H' → Q (if (badL a b ks).isEmpty = true then .int (OW.maxL 0 (leadsL a b ks)) else .non) H'

def sp_l_up : Sp := fun vs H Q _ => ∃ x y : Int, vs = [.int x, .int y] ∧ 0 < y ∧ y < 1000 ∧ Q (.int (cd x y)) H
theorem up_cd {x y : Int} (hy : 0 < y) : (x + y - 1) / y = cd x y := by
  refine (cd_one hy ?_ ?_).symm
  · have := Int.ediv_mul_le (x + y - 1) (show y ≠ 0 by omega)
    rw [Int.sub_mul, Int.one_mul]
    omega
  · have := Int.lt_ediv_add_one_mul_self (x + y - 1) hy
    rw [Int.add_mul, Int.one_mul] at this
    omega

def sp_l_ab : Sp := fun vs H Q _ => ∃ (a : Addr) (most : Int), vs = [.ref a, .int most] ∧ PoolAt H a ∧ 2 ≤ most ∧ most ≤ 1000 ∧
  ∀ (x y : Int) (t : Addr) (H' : Hp), 1 ≤ x → x < y → y ≤ most → PoolAt H' a → Chg a H H' → H t = none → H' t = some (.tup [.int x, .int y]) → Q (.ref t) H'

def Bnd (ks : List (Int × Int)) (peak need : Int) : Prop := ∀ k ∈ ks, 1 ≤ k.1 ∧ k.1 ≤ peak ∧ 1 ≤ k.2 ∧ k.2 ≤ need
theorem Bnd.snoc {ks : List (Int × Int)} {peak need w g : Int} (h : Bnd ks peak need) (h1 : 1 ≤ w) (h2 : w ≤ peak) (h3 : 1 ≤ g) (h4 : g ≤ need) : Bnd (ks ++ [(w, g)]) peak need := fun k hk => by
  (rcases List.mem_append.mp hk with hk | hk)
  · exact h k hk
  · have e : k = (w, g) := by simpa using hk
    subst e
    exact ⟨h1, h2, h3, h4⟩
theorem Bnd.good {ks : List (Int × Int)} {peak need : Int} (h : Bnd ks peak need) (h1 : peak ≤ 16) (h2 : need ≤ 120) : GoodK ks := fun k hk => by
  have := h k hk
  omega
/-- a list of pairs that has been drawn -/
def DrawnAt (a : Addr) (H H' : Hp) (l : Addr) (ks : List (Int × Int)) : Prop := ∃ ys, H l = none ∧ l ≠ a ∧ H' l = some (.lst ys) ∧ KVs H' ys ks ∧ PoolAt H' a ∧ Chg a H H'
/-- one pair more -/
theorem DrawnAt.push {a l t : Addr} {H H1 H2 : Hp} {ks : List (Int × Int)} {ys : List V} {w g : Int} (e0 : H l = none) (la : l ≠ a) (e1 : H1 l = some (.lst ys)) (hk : KVs H1 ys ks) (hP1 : PoolAt H1 a) (c : Chg a H H1) (c2 : Chg a H1 H2) (hP2 : PoolAt H2 a) (ht : H2 t = none) :
    upd H2 t (.tup [.int w, .int g]) l = some (.lst ys) ∧ DrawnAt a H (upd (upd H2 t (.tup [.int w, .int g])) l (.lst (ys ++ [.ref t]))) l (ks ++ [(w, g)]) := by
  have g2 := c2 _ _ la e1
  have g3 : upd H2 t (.tup [.int w, .int g]) l = some (.lst ys) := by rw [upd_ne (ne_of_none g2 ht)]; exact g2
  have tl : t ≠ l := (ne_of_none g2 ht).symm
  have cc := c.trans c2
  refine ⟨g3, ys ++ [.ref t], e0, la, upd_same, ?_, ?_, fun b o n e => ?_⟩
  · refine hk.snoc (t := t) (((TK.chg c2 hP1).trans (.new ht)).trans (.lst g3)) ?_
    rw [upd_ne tl]
    exact upd_same
  · obtain ⟨p0, p1, p2, e⟩ := hP2
    refine ⟨p0, p1, p2, ?_⟩
    rw [upd_ne la.symm, upd_ne (ne_of_none e ht)]
    exact e
  · rw [upd_ne (ne_of_none e e0), upd_ne (ne_of_none (cc _ _ n e) ht)]
    exact cc _ _ n e
def sp_l_kinds : Sp := fun vs H Q _ => ∃ (a : Addr) (most peak need : Int), vs = [.ref a, .int most, .int peak, .int need] ∧ PoolAt H a ∧ 0 ≤ most ∧ most ≤ 100 ∧ 1 ≤ peak ∧ peak ≤ 1000 ∧ 1 ≤ need ∧ need ≤ 1000 ∧
  ∀ (l : Addr) (ks : List (Int × Int)) (H' : Hp), DrawnAt a H H' l ks → (ks.length : Int) ≤ most → Bnd ks peak need → Q (.ref l) H'

def sp_l_lead : Sp := fun vs H Q _ => ∃ a b w : Int, vs = [.int a, .int b, .int w] ∧ 1 ≤ a ∧ a < b ∧ b ≤ 100 ∧ 1 ≤ w ∧ w ≤ 100000 ∧ Q (.int (ldd a b w)) H

def topW (a b peak need : Int) : Int := min peak (min (b - 1) (((need - 1) / a + 1) * (b - a)))
theorem topW_pos {a b peak need : Int} (h1 : 1 ≤ a) (h2 : a < b) (h3 : 1 ≤ peak) (h4 : 1 ≤ need) : 1 ≤ topW a b peak need := by
  have z : 0 ≤ (need - 1) / a := Int.ediv_nonneg (by omega) (by omega)
  have y : 1 * 1 ≤ ((need - 1) / a + 1) * (b - a) := Int.mul_le_mul (by omega) (by omega) (by omega) (by omega)
  unfold topW
  omega
theorem topW_lead {a b peak need w : Int} (h1 : 1 ≤ a) (h2 : a < b) (h4 : 1 ≤ need) (hw : 1 ≤ w) (hw2 : w ≤ topW a b peak need) : ldd a b w < need := by
  have hw3 : w ≤ ((need - 1) / a + 1) * (b - a) := by unfold topW at hw2; omega
  have c : cd w (b - a) ≤ (need - 1) / a + 1 := by
    obtain ⟨g1, _⟩ := cd_spec (x := w) (y := b - a) (by omega)
    have := Int.lt_of_mul_lt_mul_right (show (cd w (b - a) - 1) * (b - a) < ((need - 1) / a + 1) * (b - a) by omega) (by omega)
    omega
  have d : ldd a b w ≤ (need - 1) / a * a := Int.mul_le_mul_of_nonneg_right (by omega) (by omega)
  have e := Int.ediv_mul_le (need - 1) (show a ≠ 0 by omega)
  omega
def sp_l_sound_kinds (K : PySem.W.Frag) : Sp := fun vs H Q _ => ∃ (p t : Addr) (a b most peak need : Int), vs = [.ref p, .ref t, .int most, .int peak, .int need] ∧ PoolAt H p ∧ H t = some (.tup [.int a, .int b]) ∧ 1 ≤ a ∧ a < b ∧ b ≤ 12 ∧ 0 ≤ most ∧ most ≤ 100 ∧ 1 ≤ peak ∧ peak ≤ 1000 ∧ 1 ≤ need ∧ need ≤ 1000 ∧
  ∀ (l : Addr) (ks : List (Int × Int)) (H' : Hp), DrawnAt p H H' l ks → (ks.length : Int) ≤ most → Bnd ks (min peak (b - 1)) need → (∀ k ∈ ks, ldd a b k.1 < k.2) → Q (.ref l) H'

def sp_l_least_run (K : PySem.W.Frag) : Sp := fun vs H Q _ => ∃ (l : Addr) (ys : List V) (ks : List (Int × Int)) (w : Int), vs = [.ref l, .int w] ∧ SqL K H l ys ∧ KVs H ys ks ∧ Q (.int (lr ks w)) H
theorem lr_snoc (ks : List (Int × Int)) (k : Int × Int) (w : Int) : lr (ks ++ [k]) w = if k.1 ≥ w ∧ (lr ks w = 0 ∨ k.2 < lr ks w) then k.2 else lr ks w := by
  unfold lr
  rw [List.foldl_append]
  rfl

theorem upTo_succ (n : Nat) : upTo (n + 1) = upTo n ++ [(n : Int) + 1] := by
  unfold upTo
  rw [List.range_succ, List.map_append]
  rfl
def plN (ks : List (Int × Int)) (n : Nat) : List (Int × Int) := ((upTo n).filter (keepW ks)).map fun w => (w, lr ks w)
theorem plN_succ (ks : List (Int × Int)) (n : Nat) : plN ks (n + 1) = plN ks n ++ (if keepW ks ((n : Int) + 1) = true then [((n : Int) + 1, lr ks ((n : Int) + 1))] else []) := by
  unfold plN
  rw [upTo_succ, List.filter_append, List.map_append]
  congr 1
  by_cases c : keepW ks ((n : Int) + 1) = true
  · rw [if_pos c, List.filter_cons_of_pos c]
    rfl
  · rw [if_neg c, List.filter_cons_of_neg c]
    rfl
theorem plN_len (ks : List (Int × Int)) (n : Nat) : (plN ks n).length ≤ n := by
  unfold plN
  rw [List.length_map]
  exact Nat.le_trans (List.length_filter_le _ _) (by unfold upTo; rw [List.length_map, List.length_range]; exact Nat.le_refl _)
def sp_l_plain (K : PySem.W.Frag) : Sp := fun vs H Q _ => ∃ (l : Addr) (ys : List V) (ks : List (Int × Int)), vs = [.ref l] ∧ SqL K H l ys ∧ KVs H ys ks ∧
  ∀ (r : Addr) (zs : List V) (H' : Hp), Same H H' → H r = none → H' r = some (.lst zs) → KVs H' zs (pl ks) → Q (.ref r) H'

/-- the greatest number of whole steps below w among the first i -/
def StI (D w : Int) (i : Nat) (st : Int) : Prop := 0 ≤ st ∧ st * D < w ∧ st ≤ i ∧ ∀ j : Int, 0 ≤ j → j < i → j * D < w → j ≤ st
theorem StI.zero {D w : Int} (hw : 1 ≤ w) : StI D w 0 0 := ⟨Int.le_refl _, by omega, by decide, fun j h0 h1 _ => by omega⟩
theorem StI.yes {D w st : Int} {i : Nat} (_ : StI D w i st) (c : (i : Int) * D < w) : StI D w (i + 1) i := ⟨by omega, c, by omega, fun j h0 h1 _ => by omega⟩
theorem StI.no {D w st : Int} {i : Nat} (h : StI D w i st) (c : ¬ (i : Int) * D < w) : StI D w (i + 1) st := by
  obtain ⟨h1, h2, h3, h4⟩ := h
  refine ⟨h1, h2, by omega, fun j g0 g1 g2 => ?_⟩
  by_cases e : j = i
  · subst e
    exact absurd g2 c
  · exact h4 j g0 (by omega) g2
theorem StI.le {D w st : Int} {i : Nat} (h : StI D w i st) (c : (i : Int) * D < w) : st ≤ i := h.2.2.1
theorem StI.fin {a b w st : Int} (hD : a < b) (hw : 1 ≤ w) (h : StI (b - a) w w.toNat st) : st * a = ldd a b w := by
  obtain ⟨h1, h2, h3, h4⟩ := h
  have e : cd w (b - a) = st + 1 := by
    refine cd_one (by omega) (by rw [show st + 1 - 1 = st by omega]; exact h2) ?_
    rcases Int.lt_or_le ((st + 1) * (b - a)) w with c | c
    · exfalso
      rcases Int.lt_or_le (st + 1) w with d | d
      · have := h4 (st + 1) (by omega) (by omega) c
        omega
      · have : w * 1 ≤ (st + 1) * (b - a) := Int.mul_le_mul d (by omega) (by omega) (by omega)
        omega
    · exact c
  unfold ldd
  rw [e, show st + 1 - 1 = st by omega]
theorem DrawnAt.from {a l : Addr} {H H1 H2 : Hp} {ks : List (Int × Int)} (c : Chg a H H1) (hP1 : PoolAt H1 a) (h : DrawnAt a H1 H2 l ks) : DrawnAt a H H2 l ks := by
  obtain ⟨ys, e0, la, e1, e2, e3, e4⟩ := h
  exact ⟨ys, c.free hP1.some e0, la, e1, e2, e3, c.trans e4⟩
theorem chg_same {H H1 H' : Hp} {p : Addr} {o : HO} (hp : H p = none) (e : H1 = upd H p o) (c : Chg p H1 H') : Same H H' := fun b u h => c b u (ne_of_none h hp) (by rw [e, upd_ne (ne_of_none h hp)]; exact h)
theorem lac_made {C c dc : Addr} {H : Hp} {a b : Int} {Q : VK} {E : XK} (hc : H c = none) (hd : H dc = none) (h1 : 1 ≤ a) (h2 : a < b) (h3 : b ≤ 12)
    (q : ∀ H', Same H H' → LacAt C H' c a b → Q .non H') : sp_Lacquer_init C [.ref c, .int a, .int b] (upd (upd H dc (.own c)) c (.ins C dc [])) Q E :=
  ⟨c, dc, a, b, rfl, upd_same, h1, h2, h3, q _ (by rw [upd_upd]; exact same_new (same_upd hd) hc) ⟨dc, upd_same⟩⟩
theorem b_same {K : PySem.W.Frag} {H : Hp} {b b' : Bool} {Q : VK} {E : XK} {n : Nat} (e : b = b') (q : Q (.bl true) H) : sp_l_same K (n + 1) [.bl b, .bl b'] H Q E := ⟨_, _, .bool b, rfl, .bl b, by rw [← e]; exact .bl b, trivial, q⟩
theorem i_same {K : PySem.W.Frag} {H : Hp} {b b' : Int} {Q : VK} {E : XK} {n : Nat} (e : b = b') (q : Q (.bl true) H) : sp_l_same K (n + 1) [.int b, .int b'] H Q E := ⟨_, _, .int b, rfl, .int b, by rw [← e]; exact .int b, trivial, q⟩
theorem lvP {n : Nat} (L : List (Int × Int)) (h : L.length ≤ 100000) : Lv (n + 3) (.tuple (L.map dP)) := by
  refine ⟨by rw [List.length_map]; exact h, fun x hx => ?_⟩
  obtain ⟨y, _, rfl⟩ := List.mem_map.mp hx
  refine ⟨by show 2 ≤ 100000; decide, fun z hz => ?_⟩
  simp only [List.mem_cons, List.not_mem_nil, or_false] at hz
  rcases hz with rfl | rfl <;> trivial
theorem t_same {K : PySem.W.Frag} {H : Hp} {r r' : Addr} {zs zs' : List V} {L L' : List (Int × Int)} {Q : VK} {E : XK} {n : Nat} (h : H r = some (.tup zs)) (h2 : KVs H zs L) (h' : H r' = some (.tup zs')) (h2' : KVs H zs' L') (e : L = L') (hl : L.length ≤ 100000) (q : Q (.bl true) H) :
    sp_l_same K (n + 3) [.ref r, .ref r'] H Q E := ⟨_, _, .tuple (L.map dP), rfl, .tup (SqT.of h) h2.data, .tup (SqT.of h') (by rw [e]; exact h2'.data), lvP L hl, q⟩

def sp_l_wait (K : PySem.W.Frag) : Sp := fun vs H Q _ => ∃ (t : Addr) (a b w : Int), vs = [.ref t, .int w] ∧ H t = some (.tup [.int a, .int b]) ∧ 1 ≤ a ∧ a < b ∧ b ≤ 12 ∧ 1 ≤ w ∧ w ≤ 1000 ∧ Q (.int (ldd a b w)) H

def sp_l_close (K : PySem.W.Frag) : Sp := fun vs H Q _ => ∃ (p t : Addr) (a b : Int), vs = [.ref p, .ref t] ∧ PoolAt H p ∧ H t = some (.tup [.int a, .int b]) ∧ 1 ≤ a ∧ a < b ∧ b ≤ 12 ∧
  ∀ (l : Addr) (ks : List (Int × Int)) (H' : Hp), DrawnAt p H H' l ks → ks.length ≤ 4 → Bnd ks b 120 → Q (.ref l) H'

def sp_l_drawn (K : PySem.W.Frag) : Sp := fun vs H Q _ => ∃ (p t : Addr) (a b : Int), vs = [.ref p, .ref t] ∧ PoolAt H p ∧ H t = some (.tup [.int a, .int b]) ∧ 1 ≤ a ∧ a < b ∧ b ≤ 12 ∧
  ∀ (l : Addr) (ks : List (Int × Int)) (H' : Hp), DrawnAt p H H' l ks → ks.length ≤ 100 → GoodK ks → Q (.ref l) H'

/-! the lattice by least runs -/
theorem lr_app {ks ms : List (Int × Int)} (h1 : Pos2 ks) (h2 : Pos2 ms) (w : Int) : lr (ks ++ ms) w = if lr ks w = 0 then lr ms w else if lr ms w = 0 then lr ks w else min (lr ks w) (lr ms w) := by
  have hp : Pos2 (ks ++ ms) := fun k hk => (List.mem_append.mp hk).elim (h1 k) (h2 k)
  have n1 := lr_nn h1 w
  have n2 := lr_nn h2 w
  refine (lr_iff hp).mpr ?_
  by_cases a : lr ks w = 0
  · rw [if_pos a]
    have ha := (lr_iff h1).mp a
    have none1 : ∀ k ∈ ks, k.1 < w := by
      rcases ha with ⟨_, z⟩ | ⟨z, _⟩
      · exact z
      · exact absurd z (by decide)
    rcases (lr_iff h2).mp (rfl : lr ms w = lr ms w) with ⟨z0, z⟩ | ⟨z0, ⟨k, hk, z1, z2⟩, z⟩
    · refine .inl ⟨z0, fun k hk => ?_⟩
      (rcases List.mem_append.mp hk with hk | hk)
      · exact none1 k hk
      · exact z k hk
    · refine .inr ⟨z0, ⟨k, List.mem_append_right _ hk, z1, z2⟩, fun k hk hw => ?_⟩
      (rcases List.mem_append.mp hk with hk | hk)
      · have := none1 k hk
        omega
      · exact z k hk hw
  · rw [if_neg a]
    obtain ⟨ka, ha, a1, a2⟩ := lr_mem h1 (w := w) (by omega)
    by_cases b : lr ms w = 0
    · rw [if_pos b]
      have none2 : ∀ k ∈ ms, k.1 < w := by
        rcases (lr_iff h2).mp b with ⟨_, z⟩ | ⟨z, _⟩
        · exact z
        · exact absurd z (by decide)
      refine .inr ⟨by omega, ⟨ka, List.mem_append_left _ ha, a1, a2.symm⟩, fun k hk hw => ?_⟩
      (rcases List.mem_append.mp hk with hk | hk)
      · exact (lr_le h1 hk hw).2
      · have := none2 k hk
        omega
    · rw [if_neg b]
      obtain ⟨kb, hb, b1, b2⟩ := lr_mem h2 (w := w) (by omega)
      refine .inr ⟨by omega, ?_, fun k hk hw => ?_⟩
      · rcases Int.le_total (lr ks w) (lr ms w) with c | c
        · exact ⟨ka, List.mem_append_left _ ha, a1, by omega⟩
        · exact ⟨kb, List.mem_append_right _ hb, b1, by omega⟩
      · rcases List.mem_append.mp hk with hk | hk
        · have := (lr_le h1 hk hw).2
          omega
        · have := (lr_le h2 hk hw).2
          omega
/-- the pairs of a meet -/
def mt (ks ms : List (Int × Int)) : List (Int × Int) := ks.flatMap fun k => ms.map fun m => (min k.1 m.1, max k.2 m.2)
theorem mt_mem {ks ms : List (Int × Int)} {x : Int × Int} : x ∈ mt ks ms ↔ ∃ k ∈ ks, ∃ m ∈ ms, x = (min k.1 m.1, max k.2 m.2) := by
  unfold mt
  rw [List.mem_flatMap]
  constructor
  · rintro ⟨k, hk, h⟩
    obtain ⟨m, hm, e⟩ := List.mem_map.mp h
    exact ⟨k, hk, m, hm, e.symm⟩
  · rintro ⟨k, hk, m, hm, e⟩
    exact ⟨k, hk, List.mem_map.mpr ⟨m, hm, e.symm⟩⟩
theorem mt_pos {ks ms : List (Int × Int)} (h1 : Pos2 ks) : Pos2 (mt ks ms) := fun x hx => by
  obtain ⟨k, hk, m, hm, rfl⟩ := mt_mem.mp hx
  have := h1 k hk
  show 1 ≤ max k.2 m.2
  omega
theorem mt_good {ks ms : List (Int × Int)} (h1 : GoodK ks) (h2 : GoodK ms) : GoodK (mt ks ms) := fun x hx => by
  obtain ⟨k, hk, m, hm, rfl⟩ := mt_mem.mp hx
  have := h1 k hk
  have := h2 m hm
  show 1 ≤ min k.1 m.1 ∧ min k.1 m.1 ≤ 16 ∧ 1 ≤ max k.2 m.2 ∧ max k.2 m.2 ≤ 120
  omega
theorem app_good {ks ms : List (Int × Int)} (h1 : GoodK ks) (h2 : GoodK ms) : GoodK (ks ++ ms) := fun k hk => (List.mem_append.mp hk).elim (h1 k) (h2 k)
theorem mt_len {ks ms : List (Int × Int)} : (mt ks ms).length = ks.length * ms.length := by
  unfold mt
  induction ks with
  | nil => simp
  | cons k ks ih =>
    rw [List.flatMap_cons, List.length_append, ih, List.length_map, List.length_cons, Nat.succ_mul]
    omega
theorem lr_mt {ks ms : List (Int × Int)} (h1 : Pos2 ks) (h2 : Pos2 ms) (w : Int) : lr (mt ks ms) w = if lr ks w = 0 ∨ lr ms w = 0 then 0 else max (lr ks w) (lr ms w) := by
  have n1 := lr_nn h1 w
  have n2 := lr_nn h2 w
  refine (lr_iff (mt_pos h1)).mpr ?_
  by_cases a : lr ks w = 0 ∨ lr ms w = 0
  · rw [if_pos a]
    refine .inl ⟨rfl, fun x hx => ?_⟩
    obtain ⟨k, hk, m, hm, rfl⟩ := mt_mem.mp hx
    show min k.1 m.1 < w
    rcases Int.lt_or_le (min k.1 m.1) w with c | c
    · exact c
    · have := (lr_le h1 hk (w := w) (by omega)).1
      have := (lr_le h2 hm (w := w) (by omega)).1
      omega
  · rw [if_neg a]
    obtain ⟨k, hk, a1, a2⟩ := lr_mem h1 (w := w) (by omega)
    obtain ⟨m, hm, b1, b2⟩ := lr_mem h2 (w := w) (by omega)
    refine .inr ⟨by omega, ⟨_, mt_mem.mpr ⟨k, hk, m, hm, rfl⟩, by show w ≤ min k.1 m.1; omega, by show max k.2 m.2 = _; omega⟩, fun x hx hw => ?_⟩
    obtain ⟨k', hk', m', hm', rfl⟩ := mt_mem.mp hx
    have hw' : w ≤ min k'.1 m'.1 := hw
    have := (lr_le h1 hk' (w := w) (by omega)).2
    have := (lr_le h2 hm' (w := w) (by omega)).2
    show max (lr ks w) (lr ms w) ≤ max k'.2 m'.2
    omega
/-- equal least runs, equal plain lists; and the other way round -/
theorem pl_ext {ks ms : List (Int × Int)} (h1 : GoodK ks) (h2 : GoodK ms) (h : ∀ w : Int, 1 ≤ w → w ≤ 16 → lr ks w = lr ms w) : pl ks = pl ms := by
  have out : ∀ {ns : List (Int × Int)}, GoodK ns → lr ns 17 = 0 := fun hg => (lr_iff hg.pos).mpr (.inl ⟨rfl, fun k hk => by have := hg k hk; omega⟩)
  have eq : ∀ w : Int, 1 ≤ w → w ≤ 17 → lr ks w = lr ms w := fun w a b => by
    rcases Int.lt_or_le w 17 with c | c
    · exact h w a (by omega)
    · have e : w = 17 := by omega
      rw [e, out h1, out h2]
  have kp : ∀ w ∈ upTo 16, keepW ks w = keepW ms w := fun w hw => by
    have := upTo_mem.mp hw
    unfold keepW
    rw [eq w (by omega) (by omega), eq (w + 1) (by omega) (by omega)]
  unfold pl
  rw [List.filter_congr kp]
  refine List.map_congr_left fun w hw => ?_
  have := upTo_mem.mp (List.mem_filter.mp hw).1
  rw [eq w (by omega) (by omega)]
theorem lr_pl {ks : List (Int × Int)} (hg : GoodK ks) {w : Int} (hw : 1 ≤ w) : lr (pl ks) w = lr ks w := by
  refine (lr_iff hg.pl.pos).mpr ?_
  by_cases c : lr ks w = 0
  · have none1 : ∀ k ∈ ks, k.1 < w := by
      rcases (lr_iff hg.pos).mp c with ⟨_, z⟩ | ⟨z, _⟩
      · exact z
      · exact absurd z (by decide)
    refine .inl ⟨c, fun k hk => ?_⟩
    obtain ⟨v, hv, rfl⟩ := List.mem_map.mp hk
    obtain ⟨x, hx, e, _⟩ := keep_mem hg.pos (List.mem_filter.mp hv).2
    have := none1 x hx
    show v < w
    omega
  · have n := lr_nn hg.pos w
    -- the last first number with the same least run
    have top : ∀ n : Nat, ∀ v : Int, w ≤ v → v + n = 17 → lr ks v = lr ks w → ∃ u, v ≤ u ∧ keepW ks u = true ∧ lr ks u = lr ks w := by
      intro n
      induction n with
      | zero =>
        intro v _ hv e
        have : lr ks v = 0 := (lr_iff hg.pos).mpr (.inl ⟨rfl, fun k hk => by have := hg k hk; omega⟩)
        omega
      | succ n ih =>
        intro v h1 hv e
        by_cases d : lr ks (v + 1) = lr ks w
        · obtain ⟨u, u1, u2, u3⟩ := ih (v + 1) (by omega) (by omega) d
          exact ⟨u, by omega, u2, u3⟩
        · refine ⟨v, Int.le_refl _, ?_, e⟩
          unfold keepW
          (simp only [Bool.and_eq_true, decide_eq_true_eq])
          omega
    obtain ⟨k0, hk0, w0, _⟩ := lr_mem hg.pos (w := w) (by omega)
    have w16 := (hg k0 hk0).2.1
    obtain ⟨u, u1, u2, u3⟩ := top (17 - w).toNat w (Int.le_refl _) (by omega) rfl
    obtain ⟨x, hx, xe, _⟩ := keep_mem hg.pos u2
    have ux := hg x hx
    refine .inr ⟨by omega, ⟨(u, lr ks u), List.mem_map.mpr ⟨u, List.mem_filter.mpr ⟨upTo_mem.mpr (by omega), u2⟩, rfl⟩, u1, u3⟩, fun k hk hwk => ?_⟩
    obtain ⟨v, hv, rfl⟩ := List.mem_map.mp hk
    obtain ⟨y, hy, e1, e2⟩ := keep_mem hg.pos (List.mem_filter.mp hv).2
    have hwv : w ≤ v := hwk
    have := (lr_le hg.pos hy (w := w) (by omega)).2
    show lr ks w ≤ lr ks v
    omega
theorem pl_pl {ks : List (Int × Int)} (hg : GoodK ks) : pl (pl ks) = pl ks := pl_ext hg.pl hg fun w h _ => lr_pl hg h
theorem pl_inj {ks ms : List (Int × Int)} (h1 : GoodK ks) (h2 : GoodK ms) (e : pl ks = pl ms) {w : Int} (hw : 1 ≤ w) : lr ks w = lr ms w := by rw [← lr_pl h1 hw, ← lr_pl h2 hw, e]
/-- the longest spell behind a run -/
def wl (ks : List (Int × Int)) (L : Int) : Int := OW.maxL 0 ((ks.filter fun k => decide (k.2 ≤ L)).map (·.1))
theorem foldl_max : ∀ (ns : List Int) (m : Int), m ≤ ns.foldl max m ∧ (∀ n ∈ ns, n ≤ ns.foldl max m) ∧ (ns.foldl max m = m ∨ ns.foldl max m ∈ ns)
  | [], m => ⟨Int.le_refl _, fun _ h => by simp at h, .inl rfl⟩
  | n :: ns, m => by
    obtain ⟨h1, h2, h3⟩ := foldl_max ns (max m n)
    rw [List.foldl_cons]
    refine ⟨by omega, fun x hx => ?_, ?_⟩
    · rcases List.mem_cons.mp hx with rfl | hx
      · omega
      · exact h2 x hx
    · rcases h3 with e | e
      · rcases Int.le_total m n with c | c
        · exact .inr (by rw [e]; exact List.mem_cons.mpr (.inl (by omega)))
        · exact .inl (by omega)
      · exact .inr (List.mem_cons_of_mem _ e)
theorem wl_iff {ks : List (Int × Int)} (hg : GoodK ks) {w L : Int} (hw : 1 ≤ w) : w ≤ wl ks L ↔ ∃ k ∈ ks, w ≤ k.1 ∧ k.2 ≤ L := by
  unfold wl
  generalize eN : (ks.filter fun k => decide (k.2 ≤ L)).map (·.1) = N
  have mem : ∀ n, n ∈ N ↔ ∃ k ∈ ks, k.2 ≤ L ∧ k.1 = n := fun n => by
    rw [← eN, List.mem_map]
    constructor
    · rintro ⟨k, hk, e⟩
      obtain ⟨h1, h2⟩ := List.mem_filter.mp hk
      exact ⟨k, h1, by simpa using h2, e⟩
    · rintro ⟨k, hk, h, e⟩
      exact ⟨k, List.mem_filter.mpr ⟨hk, by simpa using h⟩, e⟩
  cases N with
  | nil =>
    constructor
    · intro h
      have h' : w ≤ 0 := h
      omega
    · rintro ⟨k, hk, h1, h2⟩
      exact absurd ((mem k.1).mpr ⟨k, hk, h2, rfl⟩) (by simp)
  | cons n N =>
    obtain ⟨h1, h2, h3⟩ := foldl_max N n
    constructor
    · intro h
      have h' : w ≤ N.foldl max n := h
      have m : N.foldl max n ∈ n :: N := by
        rcases h3 with e | e
        · rw [e]; exact List.mem_cons_self
        · exact List.mem_cons_of_mem _ e
      obtain ⟨k, hk, g1, g2⟩ := (mem _).mp m
      exact ⟨k, hk, by omega, g1⟩
    · rintro ⟨k, hk, g1, g2⟩
      show w ≤ N.foldl max n
      rcases List.mem_cons.mp ((mem k.1).mpr ⟨k, hk, g2, rfl⟩) with e | e
      · omega
      · have := h2 _ e
        omega
theorem wl_lr {ks : List (Int × Int)} (hg : GoodK ks) {w L : Int} (hw : 1 ≤ w) : w ≤ wl ks L ↔ lr ks w ≠ 0 ∧ lr ks w ≤ L := by
  rw [wl_iff hg hw]
  constructor
  · rintro ⟨k, hk, h1, h2⟩
    have := lr_le hg.pos hk h1
    omega
  · rintro ⟨h0, h1⟩
    have := lr_nn hg.pos w
    obtain ⟨k, hk, g1, g2⟩ := lr_mem hg.pos (w := w) (by omega)
    exact ⟨k, hk, g1, by omega⟩
theorem wl_nn {ks : List (Int × Int)} (hg : GoodK ks) (L : Int) : 0 ≤ wl ks L := by
  unfold wl
  generalize eN : (ks.filter fun k => decide (k.2 ≤ L)).map (·.1) = N
  cases N with
  | nil => exact Int.le_refl 0
  | cons n N =>
    have m : n ∈ (ks.filter fun k => decide (k.2 ≤ L)).map (·.1) := by rw [eN]; exact List.mem_cons_self
    obtain ⟨k, hk, e⟩ := List.mem_map.mp m
    have := hg k (List.mem_filter.mp hk).1
    have z := (foldl_max N n).1
    show 0 ≤ N.foldl max n
    have e' : k.1 = n := e
    omega
/-- lies beneath -/
def bnB (ks ms : List (Int × Int)) : Bool := ks.all fun k => decide (k.1 ≤ wl ms k.2)
def Bn (ks ms : List (Int × Int)) : Prop := ∀ w : Int, 1 ≤ w → w ≤ 16 → lr ks w = 0 ∨ (lr ms w ≠ 0 ∧ lr ms w ≤ lr ks w)
theorem bnB_iff {ks ms : List (Int × Int)} (h1 : GoodK ks) (h2 : GoodK ms) : bnB ks ms = true ↔ Bn ks ms := by
  unfold bnB Bn
  rw [List.all_eq_true]
  constructor
  · intro h w a b
    by_cases c : lr ks w = 0
    · exact .inl c
    · have := lr_nn h1.pos w
      obtain ⟨k, hk, g1, g2⟩ := lr_mem h1.pos (w := w) (by omega)
      have z := of_decide_eq_true (h k hk)
      have y := (wl_lr h2 (w := w) (L := k.2) a).mp (by omega)
      exact .inr ⟨y.1, by omega⟩
  · intro h k hk
    have g := h1 k hk
    refine decide_eq_true ((wl_lr h2 (by omega)).mpr ?_)
    have z := lr_le h1.pos hk (Int.le_refl k.1)
    rcases h k.1 (by omega) (by omega) with c | c
    · omega
    · exact ⟨c.1, by omega⟩
theorem bnB_pl {ks ms : List (Int × Int)} (h1 : GoodK ks) (h2 : GoodK ms) : bnB (pl ks) (pl ms) = true ↔ Bn ks ms := by
  rw [bnB_iff h1.pl h2.pl]
  unfold Bn
  constructor
  · intro h w a b
    have := h w a b
    rw [lr_pl h1 a, lr_pl h2 a] at this
    exact this
  · intro h w a b
    rw [lr_pl h1 a, lr_pl h2 a]
    exact h w a b
/-- data of pairs -/
theorem eqvAll_dP : ∀ ks ms : List (Int × Int), PyData.eqvAll (ks.map dP) (ms.map dP) = decide (ks = ms)
  | [], [] => by simp [PyData.eqvAll]
  | [], _ :: _ => by simp [PyData.eqvAll]
  | _ :: _, [] => by simp [PyData.eqvAll]
  | k :: ks, m :: ms => by
    rw [List.map_cons, List.map_cons, PyData.eqvAll, eqvAll_dP ks ms]
    have e : PyData.eqv (dP k) (dP m) = decide (k = m) := by
      obtain ⟨a, b⟩ := k
      obtain ⟨c, d⟩ := m
      rw [Bool.eq_iff_iff]
      simp [dP, PyData.eqv, PyData.eqvAll]
    rw [e, Bool.eq_iff_iff]
    simp
theorem eqv_dP (ks ms : List (Int × Int)) : PyData.eqv (.tuple (ks.map dP)) (.tuple (ms.map dP)) = decide (ks = ms) := by
  rw [PyData.eqv, eqvAll_dP]
theorem lay_dP : ∀ ks : List (Int × Int), PyData.canLayAll0 (ks.map dP) = true ∧ PyData.depthAll (ks.map dP) ≤ 2
  | [] => by simp [PyData.canLayAll0, PyData.depthAll]
  | k :: ks => by
    obtain ⟨h1, h2⟩ := lay_dP ks
    rw [List.map_cons, PyData.canLayAll0, PyData.depthAll, h1]
    refine ⟨by simp [dP, PyData.canLay0, PyData.canLayAll0], ?_⟩
    have : (dP k).depth ≤ 2 := by simp [dP, PyData.depth, PyData.depthAll]
    exact Nat.max_le.mpr ⟨this, h2⟩
theorem shaped_dP (ks : List (Int × Int)) : SeqAt.shaped (.tuple (ks.map dP)) = true := by
  obtain ⟨h1, h2⟩ := lay_dP ks
  unfold SeqAt.shaped
  rw [PyData.canLay0, h1]
  rw [Bool.true_and, PyData.depth]
  (exact decide_eq_true (by omega))

def sp_Climate_longest (K : PySem.W.Frag) (C : Addr) : Sp := fun vs H Q _ => ∃ (p : Addr) (L : Int) (ks : List (Int × Int)), vs = [.ref p, .int L] ∧ ClimAt C H p ks ∧ ks.length ≤ 300 ∧ ∀ H' : Hp, Same H H' → Q (.int (wl ks L)) H'
theorem wl_snoc (ks : List (Int × Int)) (k : Int × Int) (L : Int) : ((ks ++ [k]).filter fun k => decide (k.2 ≤ L)).map (·.1) = ((ks.filter fun k => decide (k.2 ≤ L)).map (·.1)) ++ (if k.2 ≤ L then [k.1] else []) := by
  rw [List.filter_append, List.map_append]
  congr 1
  by_cases c : k.2 ≤ L
  · rw [if_pos c, List.filter_cons_of_pos (by simpa using c)]
    rfl
  · rw [if_neg c, List.filter_cons_of_neg (by simpa using c)]
    rfl

def sp_Climate_eq (K : PySem.W.Frag) (C : Addr) : Sp := fun vs H Q _ => ∃ (p r : Addr) (ks ms : List (Int × Int)), vs = [.ref p, .ref r] ∧ ClimAt C H p ks ∧ ClimAt C H r ms ∧ Q (.bl (decide (ks = ms))) H

def sp_Climate_or (K : PySem.W.Frag) (C : Addr) : Sp := fun vs H Q _ => ∃ (p r : Addr) (ks ms : List (Int × Int)), vs = [.ref p, .ref r] ∧ ClimAt C H p ks ∧ ClimAt C H r ms ∧ ks.length + ms.length ≤ 300 ∧ GoodK ks ∧ GoodK ms ∧
  ∀ (x : Addr) (H' : Hp), Same H H' → ClimAt C H' x (pl (ks ++ ms)) → Q (.ref x) H'
theorem clim_made' {K : PySem.W.Frag} {C c dc ll : Addr} {H : Hp} {zs : List V} {ks : List (Int × Int)} {Q : VK} {E : XK} (hc : H c = none) (hd : H dc = none) (hl : H ll = some (.lst zs)) (hk : KVs H zs ks) (kl : ks.length ≤ 300) (gk : GoodK ks)
    (q : ∀ H', Same H H' → ClimAt C H' c (pl ks) → Q .non H') : sp_Climate_init K C [.ref c, .ref ll] (upd (upd H dc (.own c)) c (.ins C dc [])) Q E := by
  have s1 : Same H (upd (upd H dc (.own c)) c (.ins C dc [])) := same_new (same_upd hd) hc
  refine ⟨c, dc, ll, zs, ks, rfl, upd_same, SqL.of (s1 _ _ hl), hk.keep (.same s1), kl, gk, fun t zs' H' ch e1 e2 e3 => q H' (fun b o e => ?_) ⟨dc, t, zs', e1, e2, e3⟩⟩
  exact ch b o (ne_of_none e hc) (s1 _ _ e)

def sp_Climate_and (K : PySem.W.Frag) (C : Addr) : Sp := fun vs H Q _ => ∃ (p r : Addr) (ks ms : List (Int × Int)), vs = [.ref p, .ref r] ∧ ClimAt C H p ks ∧ ClimAt C H r ms ∧ ks.length ≤ 16 ∧ ms.length ≤ 16 ∧ GoodK ks ∧ GoodK ms ∧
  ∀ (x : Addr) (H' : Hp), Same H H' → ClimAt C H' x (pl (mt ks ms)) → Q (.ref x) H'
theorem mt_snoc (ks ms : List (Int × Int)) (k : Int × Int) : mt (ks ++ [k]) ms = mt ks ms ++ ms.map fun m => (min k.1 m.1, max k.2 m.2) := by
  unfold mt
  rw [List.flatMap_append, List.flatMap_cons, List.flatMap_nil, List.append_nil]

def sp_Climate_single (K : PySem.W.Frag) (C : Addr) : Sp := fun vs H Q _ => ∃ (w g : Int), vs = [.ref C, .int w, .int g] ∧ 1 ≤ w ∧ w ≤ 16 ∧ 1 ≤ g ∧ g ≤ 120 ∧ ∀ (x : Addr) (H' : Hp), Same H H' → ClimAt C H' x (pl [(w, g)]) → Q (.ref x) H'

/-- the greatest sound climate -/
def topK (a b : Int) : List (Int × Int) := (upTo (cd (b - 1) (b - a)).toNat).map fun j => (min (b - 1) (j * (b - a)), (j - 1) * a + 1)
def sp_f_top_kinds (C : Addr) : Sp := fun vs H Q _ => ∃ (p : Addr) (a b : Int), vs = [.ref p] ∧ LacAt C H p a b ∧ 1 ≤ a ∧ a < b ∧ b ≤ 12 ∧
  ∀ (r : Addr) (zs : List V) (H' : Hp), Same H H' → H r = none → H' r = some (.lst zs) → KVs H' zs (topK a b) → Q (.ref r) H'

theorem topK_good {a b : Int} (h1 : 1 ≤ a) (h2 : a < b) (h3 : b ≤ 12) : GoodK (topK a b) := fun k hk => by
  obtain ⟨j, hj, rfl⟩ := List.mem_map.mp hk
  obtain ⟨j1, j2⟩ := upTo_mem.mp hj
  have c0 := cd_pos (x := b - 1) (y := b - a) (by omega) (by omega)
  have c1 := cd_le (x := b - 1) (y := b - a) (by omega) (by omega)
  have x1 : 1 * 1 ≤ j * (b - a) := Int.mul_le_mul (by omega) (by omega) (by omega) (by omega)
  have x2 : 0 ≤ (j - 1) * a := Int.mul_nonneg (by omega) (by omega)
  have x3 : (j - 1) * a ≤ 10 * 11 := Int.mul_le_mul (by omega) (by omega) (by omega) (by omega)
  show 1 ≤ min (b - 1) (j * (b - a)) ∧ min (b - 1) (j * (b - a)) ≤ 16 ∧ 1 ≤ (j - 1) * a + 1 ∧ (j - 1) * a + 1 ≤ 120
  omega
theorem topK_len {a b : Int} (h1 : 1 ≤ a) (h2 : a < b) (h3 : b ≤ 12) : (topK a b).length ≤ 11 := by
  have c1 := cd_le (x := b - 1) (y := b - a) (by omega) (by omega)
  unfold topK upTo
  rw [List.length_map, List.length_map, List.length_range]
  omega
def sp_f_greatest (K : PySem.W.Frag) (C D : Addr) : Sp := fun vs H Q _ => ∃ (p : Addr) (a b : Int), vs = [.ref p] ∧ LacAt C H p a b ∧ 1 ≤ a ∧ a < b ∧ b ≤ 12 ∧
  ∀ (x : Addr) (H' : Hp), Same H H' → ClimAt D H' x (pl (topK a b)) → Q (.ref x) H'

def sp_f_beneath (K : PySem.W.Frag) (C : Addr) : Sp := fun vs H Q _ => ∃ (p r : Addr) (ks ms : List (Int × Int)), vs = [.ref p, .ref r] ∧ ClimAt C H p ks ∧ ClimAt C H r ms ∧ ks.length ≤ 300 ∧ ms.length ≤ 300 ∧ ∀ H' : Hp, Same H H' → Q (.bl (bnB ks ms)) H'

theorem cd_mono {x y D : Int} (hD : 0 < D) (h : x ≤ y) : cd x D ≤ cd y D := by
  obtain ⟨g1, _⟩ := cd_spec (x := x) hD
  obtain ⟨_, g2⟩ := cd_spec (x := y) hD
  have := Int.lt_of_mul_lt_mul_right (show (cd x D - 1) * D < cd y D * D by omega) (by omega)
  omega
theorem ldd_mono {a b v w : Int} (h1 : 1 ≤ a) (h2 : a < b) (h : v ≤ w) : ldd a b v ≤ ldd a b w := by
  have := cd_mono (D := b - a) (by omega) h
  exact Int.mul_le_mul_of_nonneg_right (by omega) (by omega)
/-- all sound, said by least runs -/
def Snd (a b : Int) (ks : List (Int × Int)) : Prop := ∀ w : Int, 1 ≤ w → w ≤ 16 → lr ks w = 0 ∨ (w < b ∧ ldd a b w < lr ks w)
theorem sndB_iff {a b : Int} {k : Int × Int} : sndB a b k = true ↔ k.1 < b ∧ ldd a b k.1 < k.2 := by
  unfold sndB
  (simp only [Bool.and_eq_true, decide_eq_true_eq])
theorem snd_all {a b : Int} {ks : List (Int × Int)} (h1 : 1 ≤ a) (h2 : a < b) (hg : GoodK ks) : (∀ k ∈ ks, sndB a b k = true) ↔ Snd a b ks := by
  constructor
  · intro h w w1 w2
    by_cases c : lr ks w = 0
    · exact .inl c
    · have := lr_nn hg.pos w
      obtain ⟨k, hk, g1, g2⟩ := lr_mem hg.pos (w := w) (by omega)
      have s := sndB_iff.mp (h k hk)
      have m := ldd_mono h1 h2 g1
      exact .inr ⟨by omega, by omega⟩
  · intro h k hk
    have g := hg k hk
    have z := lr_le hg.pos hk (Int.le_refl k.1)
    refine sndB_iff.mpr ?_
    rcases h k.1 (by omega) (by omega) with c | c
    · omega
    · omega
theorem bad_empty {a b : Int} {ks : List (Int × Int)} : (badL a b ks).isEmpty = true ↔ ∀ k ∈ ks, sndB a b k = true := by
  unfold badL
  rw [List.isEmpty_iff, List.map_eq_nil_iff, List.filter_eq_nil_iff]
  exact ⟨fun h k hk => by simpa using h k hk, fun h k hk => by simpa using h k hk⟩
theorem snd_pl {a b : Int} {ks : List (Int × Int)} (h1 : 1 ≤ a) (h2 : a < b) (hg : GoodK ks) : (badL a b (pl ks)).isEmpty = true ↔ Snd a b ks := by
  rw [bad_empty, snd_all h1 h2 hg.pl]
  unfold Snd
  constructor
  · intro h w w1 w2
    have := h w w1 w2
    rw [lr_pl hg w1] at this
    exact this
  · intro h w w1 w2
    rw [lr_pl hg w1]
    exact h w w1 w2
/-- the least runs of the greatest sound climate -/
def LrTop (a b : Int) (ks : List (Int × Int)) : Prop := ∀ w : Int, 1 ≤ w → w ≤ 16 → lr ks w = if w < b then ldd a b w + 1 else 0
theorem topK_lr {a b : Int} (h1 : 1 ≤ a) (h2 : a < b) (h3 : b ≤ 12) : LrTop a b (topK a b) := fun w w1 w2 => by
  have gp := (topK_good h1 h2 h3).pos
  refine (lr_iff gp).mpr ?_
  by_cases c : w < b
  · rw [if_pos c]
    have l0 := ldd_nn h1 h2 w1
    have m := cd_mono (x := w) (y := b - 1) (D := b - a) (by omega) (by omega)
    have p0 := cd_pos (x := w) (y := b - a) (by omega) (by omega)
    obtain ⟨g1, g2⟩ := cd_spec (x := w) (y := b - a) (by omega)
    refine .inr ⟨by omega, ⟨_, List.mem_map.mpr ⟨cd w (b - a), upTo_mem.mpr (by omega), rfl⟩, ?_, rfl⟩, fun k hk hw => ?_⟩
    · show w ≤ min (b - 1) (cd w (b - a) * (b - a))
      omega
    · obtain ⟨j, hj, rfl⟩ := List.mem_map.mp hk
      have hw' : w ≤ min (b - 1) (j * (b - a)) := hw
      have : cd w (b - a) ≤ j := by
        have := Int.lt_of_mul_lt_mul_right (show (cd w (b - a) - 1) * (b - a) < j * (b - a) by omega) (by omega)
        omega
      have y : (cd w (b - a) - 1) * a ≤ (j - 1) * a := Int.mul_le_mul_of_nonneg_right (by omega) (by omega)
      show ldd a b w + 1 ≤ (j - 1) * a + 1
      unfold ldd
      omega
  · rw [if_neg c]
    refine .inl ⟨rfl, fun k hk => ?_⟩
    obtain ⟨j, hj, rfl⟩ := List.mem_map.mp hk
    show min (b - 1) (j * (b - a)) < w
    omega
/-- all steps of the law -/
def hiK (a b : Int) : List (Int × Int) := (upTo (b - 1).toNat).map fun w => (w, ldd a b w + 1)
theorem hiK_good {a b : Int} (h1 : 1 ≤ a) (h2 : a < b) (h3 : b ≤ 12) : GoodK (hiK a b) := fun k hk => by
  obtain ⟨w, hw, rfl⟩ := List.mem_map.mp hk
  obtain ⟨w1, w2⟩ := upTo_mem.mp hw
  have l0 := ldd_nn (w := w) h1 h2 w1
  have l1 := ldd_le (w := w) h1 h2 w1
  have x3 : (w - 1) * a ≤ 10 * 11 := Int.mul_le_mul (by omega) (by omega) (by omega) (by omega)
  show 1 ≤ w ∧ w ≤ 16 ∧ 1 ≤ ldd a b w + 1 ∧ ldd a b w + 1 ≤ 120
  omega
theorem hiK_lr {a b : Int} (h1 : 1 ≤ a) (h2 : a < b) (h3 : b ≤ 12) : LrTop a b (hiK a b) := fun w w1 w2 => by
  have gp := (hiK_good h1 h2 h3).pos
  refine (lr_iff gp).mpr ?_
  by_cases c : w < b
  · rw [if_pos c]
    have l0 := ldd_nn h1 h2 w1
    refine .inr ⟨by omega, ⟨_, List.mem_map.mpr ⟨w, upTo_mem.mpr (by omega), rfl⟩, Int.le_refl _, rfl⟩, fun k hk hw => ?_⟩
    obtain ⟨v, hv, rfl⟩ := List.mem_map.mp hk
    have := ldd_mono h1 h2 (show w ≤ v from hw)
    show ldd a b w + 1 ≤ ldd a b v + 1
    omega
  · rw [if_neg c]
    refine .inl ⟨rfl, fun k hk => ?_⟩
    obtain ⟨v, hv, rfl⟩ := List.mem_map.mp hk
    have := upTo_mem.mp hv
    show v < w
    omega
theorem top_hi {a b : Int} (h1 : 1 ≤ a) (h2 : a < b) (h3 : b ≤ 12) : pl (topK a b) = pl (hiK a b) :=
  pl_ext (topK_good h1 h2 h3) (hiK_good h1 h2 h3) fun w w1 w2 => by rw [topK_lr h1 h2 h3 w w1 w2, hiK_lr h1 h2 h3 w w1 w2]
theorem bn_top {a b : Int} {ks : List (Int × Int)} (h1 : 1 ≤ a) (h2 : a < b) (h3 : b ≤ 12) (hg : GoodK ks) : bnB (pl ks) (pl (topK a b)) = true ↔ Snd a b ks := by
  rw [bnB_pl hg (topK_good h1 h2 h3)]
  unfold Bn Snd
  constructor
  · intro h w w1 w2
    have l0 := ldd_nn (w := w) h1 h2 w1
    have z := topK_lr h1 h2 h3 w w1 w2
    have := h w w1 w2
    by_cases c : w < b
    · rw [if_pos c] at z
      omega
    · rw [if_neg c] at z
      omega
  · intro h w w1 w2
    have l0 := ldd_nn (w := w) h1 h2 w1
    have z := topK_lr h1 h2 h3 w w1 w2
    rcases h w w1 w2 with c | c
    · exact .inl c
    · rw [if_pos c.1] at z
      exact .inr ⟨by omega, by omega⟩
def sndAll (a b : Int) (ks : List (Int × Int)) : Bool := ks.all (sndB a b)
theorem sndAll_iff {a b : Int} {ks : List (Int × Int)} (h1 : 1 ≤ a) (h2 : a < b) (hg : GoodK ks) : sndAll a b ks = true ↔ Snd a b ks := by
  unfold sndAll
  rw [List.all_eq_true]
  exact snd_all h1 h2 hg
theorem sound_b {a b : Int} {ks : List (Int × Int)} (h1 : 1 ≤ a) (h2 : a < b) (hg : GoodK ks) : (badL a b (pl ks)).isEmpty = sndAll a b ks := by
  rw [Bool.eq_iff_iff, snd_pl h1 h2 hg, sndAll_iff h1 h2 hg]
theorem beneath_b {a b : Int} {ks : List (Int × Int)} (h1 : 1 ≤ a) (h2 : a < b) (h3 : b ≤ 12) (hg : GoodK ks) : bnB (pl ks) (pl (topK a b)) = sndAll a b ks := by
  rw [Bool.eq_iff_iff, bn_top h1 h2 h3 hg, sndAll_iff h1 h2 hg]
theorem one_b {a b : Int} (k : Int × Int) : sndAll a b [k] = sndB a b k := by
  unfold sndAll
  simp
/-- the join with the greatest one -/
theorem snd_app {a b : Int} {ks ms : List (Int × Int)} (hg : GoodK ks) (hm : GoodK ms) : Snd a b (ks ++ ms) ↔ Snd a b ks ∧ Snd a b ms := by
  unfold Snd
  constructor
  · intro h
    constructor
    · intro w w1 w2
      have := h w w1 w2
      have n1 := lr_nn hg.pos w
      have n2 := lr_nn hm.pos w
      rw [lr_app hg.pos hm.pos] at this
      split at this
      · exact .inl (by assumption)
      · split at this <;> omega
    · intro w w1 w2
      have := h w w1 w2
      have n1 := lr_nn hg.pos w
      have n2 := lr_nn hm.pos w
      rw [lr_app hg.pos hm.pos] at this
      split at this
      · exact this
      · split at this
        · exact .inl (by assumption)
        · omega
  · rintro ⟨g1, g2⟩ w w1 w2
    have a1 := g1 w w1 w2
    have a2 := g2 w w1 w2
    rw [lr_app hg.pos hm.pos]
    split
    · exact a2
    · split
      · exact a1
      · omega
theorem snd_top {a b : Int} (h1 : 1 ≤ a) (h2 : a < b) (h3 : b ≤ 12) : Snd a b (topK a b) := fun w w1 w2 => by
  have l0 := ldd_nn (w := w) h1 h2 w1
  rw [topK_lr h1 h2 h3 w w1 w2]
  by_cases c : w < b
  · rw [if_pos c]
    exact .inr ⟨c, by omega⟩
  · rw [if_neg c]
    exact .inl rfl
theorem snd_of_pl {a b : Int} {ks : List (Int × Int)} (hg : GoodK ks) : Snd a b (pl ks) ↔ Snd a b ks := by
  unfold Snd
  constructor
  · intro h w w1 w2
    have := h w w1 w2
    rw [lr_pl hg w1] at this
    exact this
  · intro h w w1 w2
    rw [lr_pl hg w1]
    exact h w w1 w2
theorem join_b {a b : Int} {ks : List (Int × Int)} (h1 : 1 ≤ a) (h2 : a < b) (h3 : b ≤ 12) (hg : GoodK ks) : (badL a b (pl (pl (topK a b) ++ pl ks))).isEmpty = sndAll a b ks := by
  have tg := (topK_good h1 h2 h3).pl
  rw [Bool.eq_iff_iff, snd_pl h1 h2 (app_good tg hg.pl), sndAll_iff h1 h2 hg, snd_app tg hg.pl, snd_of_pl (topK_good h1 h2 h3), snd_of_pl hg]
  exact ⟨fun h => h.2, fun h => ⟨snd_top h1 h2 h3, h⟩⟩
theorem join_eq {a b : Int} {ks : List (Int × Int)} (h1 : 1 ≤ a) (h2 : a < b) (h3 : b ≤ 12) (hg : GoodK ks) : decide (pl (pl (topK a b) ++ pl ks) = pl (topK a b)) = sndAll a b ks := by
  have tg0 := topK_good h1 h2 h3
  have tg := tg0.pl
  rw [Bool.eq_iff_iff, sndAll_iff h1 h2 hg, decide_eq_true_eq]
  constructor
  · intro e w w1 w2
    have z := pl_inj (app_good tg hg.pl) tg0 e w1
    rw [lr_app tg.pos hg.pl.pos, lr_pl tg0 w1, lr_pl hg w1] at z
    have t := topK_lr h1 h2 h3 w w1 w2
    have l0 := ldd_nn (w := w) h1 h2 w1
    have n2 := lr_nn hg.pos w
    by_cases c : w < b
    · rw [if_pos c] at t
      rw [t, if_neg (by omega)] at z
      split at z
      · exact .inl (by assumption)
      · exact .inr ⟨c, by omega⟩
    · rw [if_neg c] at t
      rw [t, if_pos rfl] at z
      exact .inl z
  · intro h
    refine pl_ext (app_good tg hg.pl) tg0 fun w w1 w2 => ?_
    rw [lr_app tg.pos hg.pl.pos, lr_pl tg0 w1, lr_pl hg w1]
    have t := topK_lr h1 h2 h3 w w1 w2
    have l0 := ldd_nn (w := w) h1 h2 w1
    rcases h w w1 w2 with c | c
    · rw [c]
      split
      · exact (by assumption : lr (topK a b) w = 0).symm
      · rw [if_pos rfl]
    · rw [if_pos c.1] at t
      rw [t, if_neg (by omega), if_neg (by omega)]
      omega
theorem meet_b {a b : Int} {ks : List (Int × Int)} (h1 : 1 ≤ a) (h2 : a < b) (h3 : b ≤ 12) (hg : GoodK ks) : (badL a b (pl (mt (pl (topK a b)) (pl ks)))).isEmpty = true := by
  have tg0 := topK_good h1 h2 h3
  have tg := tg0.pl
  rw [snd_pl h1 h2 (mt_good tg hg.pl)]
  intro w w1 w2
  rw [lr_mt tg.pos hg.pl.pos, lr_pl tg0 w1, lr_pl hg w1]
  have t := topK_lr h1 h2 h3 w w1 w2
  have l0 := ldd_nn (w := w) h1 h2 w1
  split
  · exact .inl rfl
  · by_cases c : w < b
    · rw [if_pos c] at t
      exact .inr ⟨c, by omega⟩
    · rw [if_neg c] at t
      omega
theorem top_b {a b : Int} (h1 : 1 ≤ a) (h2 : a < b) (h3 : b ≤ 12) : (badL a b (pl (topK a b))).isEmpty = true := (snd_pl h1 h2 (topK_good h1 h2 h3)).mpr (snd_top h1 h2 h3)
/-- the kinds of the greatest climate stand at the edge -/
theorem edge_k {a b : Int} (h1 : 1 ≤ a) (h2 : a < b) (h3 : b ≤ 12) {k : Int × Int} (hk : k ∈ pl (hiK a b)) : 1 ≤ k.1 ∧ k.1 < b ∧ k.2 = ldd a b k.1 + 1 ∧ sndB a b k = true ∧ sndB a b (k.1 + 1, k.2) = false ∧ sndB a b (k.1, k.2 - 1) = false := by
  obtain ⟨w, hw, rfl⟩ := List.mem_map.mp hk
  obtain ⟨w0, kp⟩ := List.mem_filter.mp hw
  obtain ⟨w1, w2⟩ := upTo_mem.mp w0
  have t := hiK_lr h1 h2 h3 w w1 (by omega)
  have l0 := ldd_nn (w := w) h1 h2 w1
  unfold keepW at kp
  simp only [Bool.and_eq_true, decide_eq_true_eq] at kp
  have c : w < b := by
    rcases Int.lt_or_le w b with c | c
    · exact c
    · rw [if_neg (by omega)] at t
      omega
  rw [if_pos c] at t
  have t1 := hiK_lr h1 h2 h3 (w + 1) (by omega) (by omega)
  refine ⟨w1, c, t, sndB_iff.mpr ⟨c, by show ldd a b w < lr (hiK a b) w; omega⟩, ?_, ?_⟩
  · rw [← Bool.not_eq_true, sndB_iff]
    rintro ⟨x1, x2⟩
    have x1' : w + 1 < b := x1
    have x2' : ldd a b (w + 1) < lr (hiK a b) w := x2
    have m := ldd_mono h1 h2 (show w ≤ w + 1 by omega)
    rw [if_pos x1'] at t1
    omega
  · rw [← Bool.not_eq_true, sndB_iff]
    rintro ⟨_, x2⟩
    have x2' : ldd a b w < lr (hiK a b) w - 1 := x2
    omega
theorem hi_some {a b : Int} (h1 : 1 ≤ a) (h2 : a < b) (h3 : b ≤ 12) : 0 < (pl (hiK a b)).length := by
  have t := hiK_lr h1 h2 h3 (b - 1) (by omega) (by omega)
  have t1 := hiK_lr h1 h2 h3 b (by omega) (by omega)
  have l0 := ldd_nn (w := b - 1) h1 h2 (by omega)
  rw [if_pos (by omega)] at t
  rw [if_neg (by omega)] at t1
  have m : (b - 1, lr (hiK a b) (b - 1)) ∈ pl (hiK a b) := List.mem_map.mpr ⟨b - 1, List.mem_filter.mpr ⟨upTo_mem.mpr (by omega), by
    unfold keepW
    (simp only [Bool.and_eq_true, decide_eq_true_eq])
    rw [show b - 1 + 1 = b by omega]
    omega⟩, rfl⟩
  exact List.length_pos_of_mem m

/-- the sound kinds up to a sight -/
def seenK (a b v : Int) : List (Int × Int) := (topK a b).take (v / a + 1).toNat
def LrSeen (a b v : Int) (ks : List (Int × Int)) : Prop := ∀ w : Int, 1 ≤ w → w ≤ 16 → lr ks w = if w < b ∧ ldd a b w ≤ v then ldd a b w + 1 else 0
theorem topK_take (a b : Int) (n : Nat) : ∃ m : Nat, (topK a b).take n = (upTo m).map (fun j => (min (b - 1) (j * (b - a)), (j - 1) * a + 1)) ∧ (m : Int) = min (n : Int) ((cd (b - 1) (b - a)).toNat : Int) := by
  refine ⟨min n (cd (b - 1) (b - a)).toNat, ?_, by omega⟩
  unfold topK upTo
  rw [← List.map_take, ← List.map_take, List.take_range]
theorem seenK_good {a b v : Int} (h1 : 1 ≤ a) (h2 : a < b) (h3 : b ≤ 12) : GoodK (seenK a b v) := fun k hk => topK_good h1 h2 h3 k (List.mem_of_mem_take hk)
theorem seenK_len {a b v : Int} (h1 : 1 ≤ a) (h2 : a < b) (h3 : b ≤ 12) : (seenK a b v).length ≤ 11 := by
  unfold seenK
  rw [List.length_take]
  have := topK_len h1 h2 h3
  omega
theorem seenK_lr {a b v : Int} (h1 : 1 ≤ a) (h2 : a < b) (h3 : b ≤ 12) (hv : 0 ≤ v) : LrSeen a b v (seenK a b v) := fun w w1 w2 => by
  have gp := (seenK_good (v := v) h1 h2 h3).pos
  refine (lr_iff gp).mpr ?_
  obtain ⟨m, em, hm⟩ := topK_take a b (v / a + 1).toNat
  have p0 := cd_pos (x := w) (y := b - a) (by omega) (by omega)
  obtain ⟨g1, g2⟩ := cd_spec (x := w) (y := b - a) (by omega)
  have q0 : 0 ≤ v / a := Int.ediv_nonneg hv (by omega)
  have q1 : v / a * a ≤ v := Int.ediv_mul_le v (by omega)
  have q2 : v < (v / a + 1) * a := Int.lt_ediv_add_one_mul_self v (by omega)
  have key : ldd a b w ≤ v ↔ cd w (b - a) ≤ v / a + 1 := by
    unfold ldd
    constructor
    · intro h
      have := Int.lt_of_mul_lt_mul_right (show (cd w (b - a) - 1) * a < (v / a + 1) * a by omega) (by omega)
      omega
    · intro h
      have : (cd w (b - a) - 1) * a ≤ v / a * a := Int.mul_le_mul_of_nonneg_right (by omega) (by omega)
      omega
  have c1 := cd_pos (x := b - 1) (y := b - a) (by omega) (by omega)
  have mem : ∀ k, k ∈ seenK a b v ↔ ∃ j : Int, 1 ≤ j ∧ j ≤ m ∧ k = (min (b - 1) (j * (b - a)), (j - 1) * a + 1) := fun k => by
    unfold seenK
    rw [em, List.mem_map]
    constructor
    · rintro ⟨j, hj, e⟩
      obtain ⟨j1, j2⟩ := upTo_mem.mp hj
      exact ⟨j, j1, j2, e.symm⟩
    · rintro ⟨j, j1, j2, e⟩
      exact ⟨j, upTo_mem.mpr ⟨j1, j2⟩, e.symm⟩
  by_cases c : w < b ∧ ldd a b w ≤ v
  · rw [if_pos c]
    have l0 := ldd_nn h1 h2 w1
    have mo := cd_mono (x := w) (y := b - 1) (D := b - a) (by omega) (by omega)
    have cj := key.mp c.2
    refine .inr ⟨by omega, ⟨_, (mem _).mpr ⟨cd w (b - a), p0, by omega, rfl⟩, ?_, rfl⟩, fun k hk hw => ?_⟩
    · show w ≤ min (b - 1) (cd w (b - a) * (b - a))
      omega
    · obtain ⟨j, j1, j2, rfl⟩ := (mem k).mp hk
      have hw' : w ≤ min (b - 1) (j * (b - a)) := hw
      have : cd w (b - a) ≤ j := by
        have := Int.lt_of_mul_lt_mul_right (show (cd w (b - a) - 1) * (b - a) < j * (b - a) by omega) (by omega)
        omega
      have y : (cd w (b - a) - 1) * a ≤ (j - 1) * a := Int.mul_le_mul_of_nonneg_right (by omega) (by omega)
      show ldd a b w + 1 ≤ (j - 1) * a + 1
      unfold ldd
      omega
  · rw [if_neg c]
    refine .inl ⟨rfl, fun k hk => ?_⟩
    obtain ⟨j, j1, j2, rfl⟩ := (mem k).mp hk
    show min (b - 1) (j * (b - a)) < w
    rcases Int.lt_or_le (min (b - 1) (j * (b - a))) w with d | d
    · exact d
    · exfalso
      have : cd w (b - a) ≤ j := by
        have := Int.lt_of_mul_lt_mul_right (show (cd w (b - a) - 1) * (b - a) < j * (b - a) by omega) (by omega)
        omega
      exact c ⟨by omega, key.mpr (by omega)⟩
/-- the law's own steps up to a sight -/
def dueK (a b v : Int) : List (Int × Int) := (hiK a b).filter fun k => decide (k.2 ≤ v + 1)
theorem dueK_good {a b v : Int} (h1 : 1 ≤ a) (h2 : a < b) (h3 : b ≤ 12) : GoodK (dueK a b v) := fun k hk => hiK_good h1 h2 h3 k (List.mem_filter.mp hk).1
theorem dueK_mem {a b v : Int} {k : Int × Int} : k ∈ dueK a b v ↔ ∃ w : Int, 1 ≤ w ∧ w < b ∧ ldd a b w ≤ v ∧ k = (w, ldd a b w + 1) := by
  unfold dueK hiK
  rw [List.mem_filter, List.mem_map]
  constructor
  · rintro ⟨⟨w, hw, rfl⟩, h⟩
    have := upTo_mem.mp hw
    have h' : ldd a b w + 1 ≤ v + 1 := of_decide_eq_true h
    exact ⟨w, by omega, by omega, by omega, rfl⟩
  · rintro ⟨w, w1, w2, w3, rfl⟩
    exact ⟨⟨w, upTo_mem.mpr (by omega), rfl⟩, decide_eq_true (by show ldd a b w + 1 ≤ v + 1; omega)⟩
theorem dueK_lr {a b v : Int} (h1 : 1 ≤ a) (h2 : a < b) (h3 : b ≤ 12) : LrSeen a b v (dueK a b v) := fun w w1 w2 => by
  have gp := (dueK_good (v := v) h1 h2 h3).pos
  refine (lr_iff gp).mpr ?_
  by_cases c : w < b ∧ ldd a b w ≤ v
  · rw [if_pos c]
    have l0 := ldd_nn h1 h2 w1
    refine .inr ⟨by omega, ⟨_, dueK_mem.mpr ⟨w, w1, c.1, c.2, rfl⟩, Int.le_refl _, rfl⟩, fun k hk hw => ?_⟩
    obtain ⟨u, u1, u2, u3, rfl⟩ := dueK_mem.mp hk
    have := ldd_mono h1 h2 (show w ≤ u from hw)
    show ldd a b w + 1 ≤ ldd a b u + 1
    omega
  · rw [if_neg c]
    refine .inl ⟨rfl, fun k hk => ?_⟩
    obtain ⟨u, u1, u2, u3, rfl⟩ := dueK_mem.mp hk
    show u < w
    rcases Int.lt_or_le u w with d | d
    · exact d
    · have := ldd_mono h1 h2 d
      exact absurd ⟨by omega, by omega⟩ c
theorem seen_due {a b v : Int} (h1 : 1 ≤ a) (h2 : a < b) (h3 : b ≤ 12) (hv : 0 ≤ v) : pl (seenK a b v) = pl (dueK a b v) :=
  pl_ext (seenK_good h1 h2 h3) (dueK_good h1 h2 h3) fun w w1 w2 => by rw [seenK_lr h1 h2 h3 hv w w1 w2, dueK_lr h1 h2 h3 w w1 w2]
def SndV (a b v : Int) (ks : List (Int × Int)) : Prop := (∀ k ∈ ks, sndB a b k = true) ∧ ∀ k ∈ ks, ldd a b k.1 ≤ v
theorem bn_seen {a b v : Int} {ks : List (Int × Int)} (h1 : 1 ≤ a) (h2 : a < b) (h3 : b ≤ 12) (hv : 0 ≤ v) (hg : GoodK ks) : bnB (pl ks) (pl (seenK a b v)) = true ↔ SndV a b v ks := by
  rw [bnB_pl hg (seenK_good h1 h2 h3)]
  unfold Bn SndV
  constructor
  · intro h
    have one : ∀ k ∈ ks, k.1 < b ∧ ldd a b k.1 < k.2 ∧ ldd a b k.1 ≤ v := fun k hk => by
      have g := hg k hk
      have z := lr_le hg.pos hk (Int.le_refl k.1)
      have y := seenK_lr h1 h2 h3 hv k.1 (by omega) (by omega)
      have x := h k.1 (by omega) (by omega)
      by_cases c : k.1 < b ∧ ldd a b k.1 ≤ v
      · rw [if_pos c] at y
        omega
      · rw [if_neg c] at y
        omega
    exact ⟨fun k hk => sndB_iff.mpr ⟨(one k hk).1, (one k hk).2.1⟩, fun k hk => (one k hk).2.2⟩
  · rintro ⟨s1, s2⟩ w w1 w2
    by_cases c : lr ks w = 0
    · exact .inl c
    · have := lr_nn hg.pos w
      obtain ⟨k, hk, g1, g2⟩ := lr_mem hg.pos (w := w) (by omega)
      have s := sndB_iff.mp (s1 k hk)
      have m := ldd_mono h1 h2 g1
      have l := s2 k hk
      have y := seenK_lr h1 h2 h3 hv w w1 w2
      have l0 := ldd_nn h1 h2 w1
      rw [if_pos ⟨by omega, by omega⟩] at y
      exact .inr ⟨by omega, by omega⟩
theorem seen_sound {a b v : Int} (h1 : 1 ≤ a) (h2 : a < b) (h3 : b ≤ 12) (hv : 0 ≤ v) : (badL a b (pl (seenK a b v))).isEmpty = true := by
  rw [snd_pl h1 h2 (seenK_good h1 h2 h3)]
  intro w w1 w2
  have y := seenK_lr h1 h2 h3 hv w w1 w2
  have l0 := ldd_nn h1 h2 w1
  by_cases c : w < b ∧ ldd a b w ≤ v
  · rw [if_pos c] at y
    exact .inr ⟨c.1, by omega⟩
  · rw [if_neg c] at y
    exact .inl y
theorem bn_pl' {ks ms : List (Int × Int)} (h1 : GoodK ks) (h2 : GoodK ms) : bnB (pl ks) (pl ms) = true ↔ Bn ks ms := bnB_pl h1 h2
theorem seen_rise {a b v : Int} (h1 : 1 ≤ a) (h2 : a < b) (h3 : b ≤ 12) (hv : 0 ≤ v) : bnB (pl (seenK a b v)) (pl (seenK a b (v + 1))) = true := by
  rw [bnB_pl (seenK_good h1 h2 h3) (seenK_good h1 h2 h3)]
  intro w w1 w2
  rw [seenK_lr h1 h2 h3 hv w w1 w2, seenK_lr h1 h2 h3 (by omega : 0 ≤ v + 1) w w1 w2]
  have l0 := ldd_nn h1 h2 w1
  by_cases c : w < b ∧ ldd a b w ≤ v
  · rw [if_pos c, if_pos ⟨c.1, by omega⟩]
    exact .inr ⟨by omega, by omega⟩
  · rw [if_neg c]
    exact .inl rfl
/-- the steps with just the next lead -/
def nextK (a b v : Int) : List (Int × Int) := (hiK a b).filter fun k => decide (k.2 = v + 2)
theorem seen_back {a b v : Int} (h1 : 1 ≤ a) (h2 : a < b) (h3 : b ≤ 12) (hv : 0 ≤ v) : bnB (pl (seenK a b (v + 1))) (pl (seenK a b v)) = decide (((nextK a b v).length : Int) = 0) := by
  have none1 : ((nextK a b v).length : Int) = 0 ↔ ∀ w : Int, 1 ≤ w → w < b → ldd a b w ≠ v + 1 := by
    constructor
    · intro h w w1 w2 e
      have m : (w, ldd a b w + 1) ∈ nextK a b v := List.mem_filter.mpr ⟨List.mem_map.mpr ⟨w, upTo_mem.mpr (by omega), rfl⟩, decide_eq_true (by show ldd a b w + 1 = v + 2; omega)⟩
      have := List.length_pos_of_mem m
      omega
    · intro h
      have : nextK a b v = [] := by
        unfold nextK
        rw [List.filter_eq_nil_iff]
        intro k hk hd
        obtain ⟨w, hw, rfl⟩ := List.mem_map.mp hk
        have := upTo_mem.mp hw
        have hd' : ldd a b w + 1 = v + 2 := of_decide_eq_true hd
        exact h w (by omega) (by omega) (by omega)
      rw [this]
      rfl
  rw [Bool.eq_iff_iff, decide_eq_true_eq, none1, bnB_pl (seenK_good h1 h2 h3) (seenK_good h1 h2 h3)]
  unfold Bn
  constructor
  · intro h w w1 w2 e
    have l0 := ldd_nn h1 h2 w1
    have := h w w1 (by omega)
    rw [seenK_lr h1 h2 h3 hv w w1 (by omega), seenK_lr h1 h2 h3 (by omega : 0 ≤ v + 1) w w1 (by omega), if_pos ⟨w2, by omega⟩, if_neg (by omega)] at this
    omega
  · intro h w w1 w2
    have l0 := ldd_nn h1 h2 w1
    rw [seenK_lr h1 h2 h3 hv w w1 w2, seenK_lr h1 h2 h3 (by omega : 0 ≤ v + 1) w w1 w2]
    by_cases c : w < b ∧ ldd a b w ≤ v + 1
    · have := h w w1 c.1
      rw [if_pos c, if_pos ⟨c.1, by omega⟩]
      exact .inr ⟨by omega, by omega⟩
    · rw [if_neg c]
      exact .inl rfl
theorem seen_all {a b : Int} (h1 : 1 ≤ a) (h2 : a < b) (h3 : b ≤ 12) : pl (seenK a b 120) = pl (topK a b) :=
  pl_ext (seenK_good h1 h2 h3) (topK_good h1 h2 h3) fun w w1 w2 => by
    rw [seenK_lr h1 h2 h3 (by decide) w w1 w2, topK_lr h1 h2 h3 w w1 w2]
    by_cases c : w < b
    · have l1 := ldd_le h1 h2 w1
      have x3 : (w - 1) * a ≤ 10 * 11 := Int.mul_le_mul (by omega) (by omega) (by omega) (by omega)
      rw [if_pos ⟨c, by omega⟩, if_pos c]
    · rw [if_neg (fun z => c z.1), if_neg c]
/-- the last one of the steps up to a sight, and the lead of the climate -/
theorem due_last {a b v : Int} (h1 : 1 ≤ a) (h2 : a < b) (h3 : b ≤ 12) (hv : 0 ≤ v) : ∃ init w, dueK a b v = init ++ [(w, ldd a b w + 1)] ∧ OW.maxL 0 (leadsL a b (pl (seenK a b v))) = ldd a b w := by
  have one : (1, ldd a b 1 + 1) ∈ dueK a b v := dueK_mem.mpr ⟨1, Int.le_refl _, by omega, by
    have := ldd_le (w := 1) h1 h2 (by omega)
    omega, rfl⟩
  obtain ⟨init, x, e⟩ : ∃ init x, dueK a b v = init ++ [x] := by
    rcases List.eq_nil_or_concat (dueK a b v) with z | ⟨init, x, z⟩
    · rw [z] at one
      simp at one
    · exact ⟨init, x, by rw [z, List.concat_eq_append]⟩
  have xm : x ∈ dueK a b v := by rw [e]; simp
  obtain ⟨w, w1, w2, w3, rfl⟩ := dueK_mem.mp xm
  refine ⟨init, w, e, ?_⟩
  -- w is the greatest one
  have last : ∀ u : Int, 1 ≤ u → u < b → ldd a b u ≤ v → u ≤ w := fun u u1 u2 u3 => by
    have um : (u, ldd a b u + 1) ∈ dueK a b v := dueK_mem.mpr ⟨u, u1, u2, u3, rfl⟩
    have pw : (dueK a b v).Pairwise (fun x y => x.1 < y.1) := by
      unfold dueK hiK
      refine List.Pairwise.filter _ ?_
      rw [List.pairwise_map]
      exact upTo_rise _
    rw [e] at um pw
    rcases List.mem_append.mp um with m | m
    · exact Int.le_of_lt ((List.pairwise_append.mp pw).2.2 _ m (w, ldd a b w + 1) List.mem_cons_self)
    · have z : (u, ldd a b u + 1) = (w, ldd a b w + 1) := by simpa using m
      have := congrArg Prod.fst z
      exact Int.le_of_eq this
  have l0 := ldd_nn h1 h2 w1
  have inpl : (w, lr (seenK a b v) w) ∈ pl (seenK a b v) := List.mem_map.mpr ⟨w, List.mem_filter.mpr ⟨upTo_mem.mpr (by omega), by
    have y := seenK_lr h1 h2 h3 hv w w1 (by omega)
    have y1 := seenK_lr h1 h2 h3 hv (w + 1) (by omega) (by omega)
    rw [if_pos ⟨w2, w3⟩] at y
    have : ¬ (w + 1 < b ∧ ldd a b (w + 1) ≤ v) := fun z => by
      have := last (w + 1) (by omega) z.1 z.2
      omega
    rw [if_neg this] at y1
    unfold keepW
    (simp only [Bool.and_eq_true, decide_eq_true_eq])
    omega⟩, rfl⟩
  have all : ∀ k ∈ pl (seenK a b v), ldd a b k.1 ≤ ldd a b w := fun k hk => by
    obtain ⟨u, hu, rfl⟩ := List.mem_map.mp hk
    obtain ⟨u0, kp⟩ := List.mem_filter.mp hu
    obtain ⟨u1, u2⟩ := upTo_mem.mp u0
    have y := seenK_lr h1 h2 h3 hv u u1 u2
    unfold keepW at kp
    simp only [Bool.and_eq_true, decide_eq_true_eq] at kp
    by_cases c : u < b ∧ ldd a b u ≤ v
    · exact ldd_mono h1 h2 (last u u1 c.1 c.2)
    · rw [if_neg c] at y
      omega
  generalize pl (seenK a b v) = N at inpl all
  cases N with
  | nil => simp at inpl
  | cons k N =>
    show (leadsL a b N).foldl max (ldd a b k.1) = ldd a b w
    obtain ⟨f1, f2, f3⟩ := foldl_max (leadsL a b N) (ldd a b k.1)
    have up : (leadsL a b N).foldl max (ldd a b k.1) ≤ ldd a b w := by
      rcases f3 with z | z
      · rw [z]
        exact all k List.mem_cons_self
      · obtain ⟨m, hm, em⟩ := List.mem_map.mp z
        have := all m (List.mem_cons_of_mem _ hm)
        have em' : ldd a b m.1 = List.foldl max (ldd a b k.1) (leadsL a b N) := em
        omega
    have dn : ldd a b w ≤ (leadsL a b N).foldl max (ldd a b k.1) := by
      rcases List.mem_cons.mp inpl with z | z
      · have := congrArg Prod.fst z
        have e2 : w = k.1 := this
        rw [e2]
        exact f1
      · exact f2 _ (List.mem_map.mpr ⟨_, z, rfl⟩)
    omega

def sp_f_check_sight (CB : Addr) : Sp := fun vs H Q E => ∃ v : Int, vs = [.int v] ∧ (v < 0 → E (.ref CB) none H) ∧ (0 ≤ v → Q .non H)

def sp_f_greatest_seen (K : PySem.W.Frag) (C D CB : Addr) : Sp := fun vs H Q E => ∃ (p : Addr) (a b v : Int), vs = [.ref p, .int v] ∧ LacAt C H p a b ∧ 1 ≤ a ∧ a < b ∧ b ≤ 12 ∧ v < 100000 ∧ (v < 0 → E (.ref CB) none H) ∧
  (0 ≤ v → ∀ (x : Addr) (H' : Hp), Same H H' → ClimAt D H' x (pl (seenK a b v)) → Q (.ref x) H')
theorem cut_take {zs : List V} {j : Int} (h : 0 ≤ j) : cutV zs none (some j) = zs.take j.toNat := by
  unfold cutV HT.sIx
  simp only [List.drop_zero]
  rw [if_neg (by omega)]
  simp only [Nat.sub_zero]
  rw [List.take_eq_take_iff]
  omega

theorem sndAll_snoc (a b : Int) (ks : List (Int × Int)) (k : Int × Int) : sndAll a b (ks ++ [k]) = (sndAll a b ks && sndB a b k) := by
  unfold sndAll
  rw [List.all_append]
  simp
/-- how far is booked for a sound kind: by one coat, by the coats of its spans -/
def bkA (a : Int) (k : Int × Int) : Int := a + k.1
def bkC (a b : Int) (k : Int × Int) : Int := max (k.1 + 1) (max 2 (cd k.1 (b - a)) * a)
def bkN (a b : Int) (k : Int × Int) : Int := if k.1 ≤ b - a then (if a < k.2 then min (bkA a k) (bkC a b k) else bkA a k) else bkC a b k
/-- a kind is borne at a sight -/
def BkB (a b v : Int) (k : Int × Int) : Prop := (k.1 < b ∧ ldd a b k.1 < k.2) ∧ ((k.1 ≤ b - a ∧ a + k.1 ≤ v) ∨ (a < k.2 ∧ k.1 < v ∧ 2 * a ≤ v ∧ ldd a b k.1 + a ≤ v))
theorem cd_two {x D : Int} (hD : 0 < D) (h : D < x) : 2 ≤ cd x D := by
  obtain ⟨_, g2⟩ := cd_spec (x := x) hD
  rcases Int.lt_or_le (cd x D) 2 with c | c
  · have : cd x D * D ≤ 1 * D := Int.mul_le_mul_of_nonneg_right (by omega) (by omega)
    omega
  · exact c
theorem bkC_le {a b v : Int} {k : Int × Int} (h1 : 1 ≤ a) : bkC a b k ≤ v ↔ k.1 < v ∧ 2 * a ≤ v ∧ ldd a b k.1 + a ≤ v := by
  have e : (max 2 (cd k.1 (b - a))) * a = max (2 * a) (cd k.1 (b - a) * a) := by
    rcases Int.le_total 2 (cd k.1 (b - a)) with c | c
    · have := Int.mul_le_mul_of_nonneg_right c (show 0 ≤ a by omega)
      rw [Int.max_eq_right c, Int.max_eq_right this]
    · have := Int.mul_le_mul_of_nonneg_right c (show 0 ≤ a by omega)
      rw [Int.max_eq_left c, Int.max_eq_left this]
  have e2 : ldd a b k.1 + a = cd k.1 (b - a) * a := by
    unfold ldd
    rw [Int.sub_mul, Int.one_mul]
    omega
  unfold bkC
  rw [e, e2]
  omega
theorem lead_one {a b : Int} {k : Int × Int} (h1 : 1 ≤ a) (h2 : a < b) (w1 : 1 ≤ k.1) (h : k.1 ≤ b - a) : ldd a b k.1 = 0 := by
  have : cd k.1 (b - a) = 1 := cd_one (by omega) (by omega) (by omega)
  unfold ldd
  rw [this]
  omega
theorem lead_more {a b : Int} {k : Int × Int} (h1 : 1 ≤ a) (h2 : a < b) (h : b - a < k.1) : a ≤ ldd a b k.1 := by
  have := cd_two (x := k.1) (D := b - a) (by omega) h
  have : 1 * a ≤ (cd k.1 (b - a) - 1) * a := Int.mul_le_mul_of_nonneg_right (by omega) (by omega)
  unfold ldd
  omega
theorem bk_iff {a b v : Int} {k : Int × Int} (h1 : 1 ≤ a) (h2 : a < b) (hs : sndB a b k = true) : BkB a b v k ↔ bkN a b k ≤ v := by
  have s := sndB_iff.mp hs
  have c := bkC_le (a := a) (b := b) (v := v) (k := k) h1
  unfold BkB bkN
  by_cases d : k.1 ≤ b - a
  · rw [if_pos d]
    by_cases e : a < k.2
    · rw [if_pos e]
      have : min (bkA a k) (bkC a b k) ≤ v ↔ bkA a k ≤ v ∨ bkC a b k ≤ v := by omega
      rw [this, c]
      unfold bkA
      constructor
      · rintro ⟨_, x | x⟩
        · exact .inl x.2
        · exact .inr x.2
      · rintro (x | x)
        · exact ⟨s, .inl ⟨d, x⟩⟩
        · exact ⟨s, .inr ⟨e, x⟩⟩
    · rw [if_neg e]
      unfold bkA
      constructor
      · rintro ⟨_, x | x⟩
        · exact x.2
        · exact absurd x.1 e
      · intro x
        exact ⟨s, .inl ⟨d, x⟩⟩
  · rw [if_neg d, c]
    have m := lead_more (k := k) h1 h2 (by omega)
    constructor
    · rintro ⟨_, x | x⟩
      · exact absurd x.1 d
      · exact x.2
    · intro x
      exact ⟨s, .inr ⟨by omega, x⟩⟩
theorem bk_snd {a b v : Int} {k : Int × Int} (h : BkB a b v k) : sndB a b k = true := sndB_iff.mpr h.1
theorem ldd_small {a b w : Int} (h1 : 1 ≤ a) (h2 : a < b) (h3 : b ≤ 12) (hw : 1 ≤ w) (hw2 : w ≤ b - 1) : 0 ≤ ldd a b w ∧ ldd a b w ≤ 110 := by
  have l0 := ldd_nn h1 h2 hw
  have l1 := ldd_le h1 h2 hw
  have x3 : (w - 1) * a ≤ 10 * 11 := Int.mul_le_mul (by omega) (by omega) (by omega) (by omega)
  omega
theorem bk_range {a b : Int} {k : Int × Int} (h1 : 1 ≤ a) (h2 : a < b) (h3 : b ≤ 12) (w1 : 1 ≤ k.1) (hs : sndB a b k = true) : 1 ≤ bkN a b k ∧ bkN a b k ≤ 139 ∧ a < bkN a b k := by
  have s := sndB_iff.mp hs
  have up : bkN a b k ≤ 139 := (bk_iff h1 h2 hs).mp (by
    obtain ⟨l0, l1⟩ := ldd_small (w := k.1) h1 h2 h3 w1 (by omega)
    refine ⟨s, ?_⟩
    by_cases d : k.1 ≤ b - a
    · exact .inl ⟨d, by omega⟩
    · have m := lead_more (k := k) h1 h2 (by omega)
      exact .inr ⟨by omega, by omega, by omega, by omega⟩)
  have dn : a < bkN a b k := by
    rcases Int.lt_or_le a (bkN a b k) with c | c
    · exact c
    · have := (bk_iff (v := a) h1 h2 hs).mpr c
      rcases this.2 with x | x <;> omega
  exact ⟨by omega, up, dn⟩
theorem bk_mono {a b v : Int} {k m : Int × Int} (h1 : 1 ≤ a) (h2 : a < b) (w1 : 1 ≤ k.1) (h : BkB a b v m) (e1 : k.1 ≤ m.1) (e2 : m.2 ≤ k.2) : BkB a b v k := by
  obtain ⟨⟨s1, s2⟩, s3⟩ := h
  have mo := ldd_mono h1 h2 e1
  refine ⟨⟨by omega, by omega⟩, ?_⟩
  rcases s3 with x | x
  · exact .inl ⟨by omega, by omega⟩
  · exact .inr ⟨by omega, by omega, by omega, by omega⟩
theorem bk_up {a b v u : Int} {k : Int × Int} (h : BkB a b v k) (e : v ≤ u) : BkB a b u k := by
  refine ⟨h.1, ?_⟩
  rcases h.2 with x | x
  · exact .inl ⟨by omega, by omega⟩
  · exact .inr ⟨by omega, by omega, by omega, by omega⟩
/-- a list of kinds that tells what is borne at a sight -/
def Tells (a b v : Int) (ks : List (Int × Int)) : Prop := (∀ k ∈ ks, BkB a b v k) ∧ ∀ k : Int × Int, 1 ≤ k.1 → BkB a b v k → ∃ m ∈ ks, k.1 ≤ m.1 ∧ m.2 ≤ k.2
theorem tells_le {a b v : Int} {ks ms : List (Int × Int)} (hg : GoodK ks) (hm : GoodK ms) (h : ∀ k ∈ ks, BkB a b v k) (t : Tells a b v ms) (w : Int) (c : 0 < lr ks w) : 0 < lr ms w ∧ lr ms w ≤ lr ks w := by
  obtain ⟨k, hk, g1, g2⟩ := lr_mem hg.pos c
  obtain ⟨m, mm, e1, e2⟩ := t.2 k (hg k hk).1 (h k hk)
  have := lr_le hm.pos mm (show w ≤ m.1 by omega)
  exact ⟨this.1, by omega⟩
theorem tells_eq {a b v : Int} {ks ms : List (Int × Int)} (hg : GoodK ks) (hm : GoodK ms) (t : Tells a b v ks) (u : Tells a b v ms) : pl ks = pl ms :=
  pl_ext hg hm fun w w1 w2 => by
    have n1 := lr_nn hg.pos w
    have n2 := lr_nn hm.pos w
    by_cases c : lr ks w = 0
    · by_cases d : lr ms w = 0
      · omega
      · have := tells_le hm hg u.1 t w (by omega)
        omega
    · have x := tells_le hg hm t.1 u w (by omega)
      have y := tells_le hm hg u.1 t w x.1
      omega
theorem tells_bn {a b v : Int} {ks ms : List (Int × Int)} (h1 : 1 ≤ a) (h2 : a < b) (hg : GoodK ks) (hm : GoodK ms) (t : Tells a b v ms) : bnB (pl ks) (pl ms) = true ↔ ∀ k ∈ ks, BkB a b v k := by
  rw [bnB_pl hg hm]
  unfold Bn
  constructor
  · intro h k hk
    have g := hg k hk
    have z := lr_le hg.pos hk (Int.le_refl k.1)
    have y := h k.1 (by omega) (by omega)
    have n1 := lr_nn hm.pos k.1
    have p : 0 < lr ms k.1 := by omega
    obtain ⟨m, mm, e1, e2⟩ := lr_mem hm.pos p
    exact bk_mono h1 h2 g.1 (t.1 m mm) e1 (by omega)
  · intro h w w1 w2
    have n1 := lr_nn hg.pos w
    by_cases c : lr ks w = 0
    · exact .inl c
    · have x := tells_le hg hm h t w (by omega)
      exact .inr ⟨by omega, by omega⟩
/-- the program's list: for a spell its two runs -/
def gb2 (a b w : Int) : List (Int × Int) := [(w, ldd a b w + 1), (w, max (ldd a b w) a + 1)]
theorem gb2_mem {a b w : Int} {k : Int × Int} (h : k ∈ gb2 a b w) : k.1 = w ∧ (k.2 = ldd a b w + 1 ∨ k.2 = max (ldd a b w) a + 1) := by
  (rcases List.mem_cons.mp h with e | e)
  · subst e
    exact ⟨rfl, .inl rfl⟩
  · have e' : k = (w, max (ldd a b w) a + 1) := by simpa using e
    subst e'
    exact ⟨rfl, .inr rfl⟩
def gbOf (a b v w : Int) : List (Int × Int) := (gb2 a b w).filter fun k => decide (bkN a b k ≤ v)
def gbI (a b v : Int) (i : Nat) : List (Int × Int) := (upTo i).flatMap (gbOf a b v)
theorem gbI_succ (a b v : Int) (i : Nat) : gbI a b v (i + 1) = gbI a b v i ++ gbOf a b v ((i : Int) + 1) := by
  unfold gbI
  rw [upTo_succ, List.flatMap_append]
  simp
def gbK (a b v : Int) : List (Int × Int) := gbI a b v (b - 1).toNat
theorem gbI_len (a b v : Int) : ∀ i : Nat, (gbI a b v i).length ≤ 2 * i
  | 0 => by simp [gbI, upTo]
  | i + 1 => by
    have := gbI_len a b v i
    have l2 : (gbOf a b v ((i : Int) + 1)).length ≤ 2 := List.length_filter_le _ _
    rw [gbI_succ, List.length_append]
    omega
theorem gb_mem {a b v : Int} {i : Nat} {k : Int × Int} : k ∈ gbI a b v i ↔ 1 ≤ k.1 ∧ k.1 ≤ i ∧ (k.2 = ldd a b k.1 + 1 ∨ k.2 = max (ldd a b k.1) a + 1) ∧ bkN a b k ≤ v := by
  unfold gbI
  rw [List.mem_flatMap]
  constructor
  · rintro ⟨w, hw, h⟩
    obtain ⟨h', d⟩ := List.mem_filter.mp h
    have u := upTo_mem.mp hw
    have d' := of_decide_eq_true d
    rcases List.mem_cons.mp h' with e | e
    · subst e
      exact ⟨u.1, u.2, .inl rfl, d'⟩
    · have e' : k = (w, max (ldd a b w) a + 1) := by simpa using e
      subst e'
      exact ⟨u.1, u.2, .inr rfl, d'⟩
  · rintro ⟨g1, g2, g3, g4⟩
    refine ⟨k.1, upTo_mem.mpr ⟨g1, g2⟩, List.mem_filter.mpr ⟨?_, decide_eq_true g4⟩⟩
    obtain ⟨w, g⟩ := k
    rcases g3 with e | e
    · have e' : g = ldd a b w + 1 := e
      rw [e']
      exact List.mem_cons_self
    · have e' : g = max (ldd a b w) a + 1 := e
      rw [e']
      exact List.mem_cons_of_mem _ List.mem_cons_self
theorem gbK_good {a b v : Int} (h1 : 1 ≤ a) (h2 : a < b) (h3 : b ≤ 12) : GoodK (gbK a b v) := fun k hk => by
  obtain ⟨g1, g2, g3, _⟩ := gb_mem.mp hk
  obtain ⟨l0, l1⟩ := ldd_small (w := k.1) h1 h2 h3 g1 (by omega)
  omega
theorem gbK_tells {a b v : Int} (h1 : 1 ≤ a) (h2 : a < b) (h3 : b ≤ 12) : Tells a b v (gbK a b v) := by
  have snd : ∀ k : Int × Int, 1 ≤ k.1 → k.1 ≤ b - 1 → ldd a b k.1 < k.2 → sndB a b k = true := fun k _ e f => sndB_iff.mpr ⟨by omega, f⟩
  constructor
  · intro k hk
    obtain ⟨g1, g2, g3, g4⟩ := gb_mem.mp hk
    exact (bk_iff h1 h2 (snd k g1 (by omega) (by omega))).mpr g4
  · intro k w1 h
    obtain ⟨⟨s1, s2⟩, s3⟩ := h
    have l0 := ldd_nn h1 h2 w1
    rcases s3 with x | x
    · refine ⟨(k.1, ldd a b k.1 + 1), gb_mem.mpr ⟨w1, by show k.1 ≤ _; omega, .inl rfl, ?_⟩, Int.le_refl _, by show ldd a b k.1 + 1 ≤ k.2; omega⟩
      exact (bk_iff (k := (k.1, ldd a b k.1 + 1)) h1 h2 (snd (k.1, ldd a b k.1 + 1) w1 (by show k.1 ≤ _; omega) (by show ldd a b k.1 < ldd a b k.1 + 1; omega))).mp ⟨⟨s1, by show ldd a b k.1 < ldd a b k.1 + 1; omega⟩, .inl x⟩
    · refine ⟨(k.1, max (ldd a b k.1) a + 1), gb_mem.mpr ⟨w1, by show k.1 ≤ _; omega, .inr rfl, ?_⟩, Int.le_refl _, by show max (ldd a b k.1) a + 1 ≤ k.2; omega⟩
      exact (bk_iff (k := (k.1, max (ldd a b k.1) a + 1)) h1 h2 (snd (k.1, max (ldd a b k.1) a + 1) w1 (by show k.1 ≤ _; omega) (by show ldd a b k.1 < max (ldd a b k.1) a + 1; omega))).mp ⟨⟨s1, by show ldd a b k.1 < max (ldd a b k.1) a + 1; omega⟩, .inr ⟨by show a < max (ldd a b k.1) a + 1; omega, x.2⟩⟩
/-- the law's list -/
def HbI (a b v : Int) (i : Nat) (ks : List (Int × Int)) : Prop := (∀ k ∈ ks, 1 ≤ k.1 ∧ k.1 ≤ i ∧ 1 ≤ k.2 ∧ k.2 ≤ 120 ∧ BkB a b v k) ∧ (∀ k : Int × Int, 1 ≤ k.1 → k.1 ≤ i → k.2 ≤ 120 → BkB a b v k → ∃ m ∈ ks, k.1 ≤ m.1 ∧ m.2 ≤ k.2) ∧ ks.length ≤ i
theorem hb_end {a b v : Int} {ks : List (Int × Int)} (h1 : 1 ≤ a) (h2 : a < b) (h3 : b ≤ 12) (h : HbI a b v (b - 1).toNat ks) : GoodK ks ∧ Tells a b v ks := by
  refine ⟨fun k hk => by have := h.1 k hk; omega, fun k hk => (h.1 k hk).2.2.2.2, fun k w1 hb => ?_⟩
  obtain ⟨⟨s1, s2⟩, s3⟩ := id hb
  by_cases c : k.2 ≤ 120
  · exact h.2.1 k w1 (by omega) c hb
  · obtain ⟨l0, l1⟩ := ldd_small (w := k.1) h1 h2 h3 w1 (by omega)
    have hb' : BkB a b v (k.1, 120) := by
      refine ⟨⟨s1, by show ldd a b k.1 < 120; omega⟩, ?_⟩
      rcases s3 with x | x
      · exact .inl x
      · exact .inr ⟨by show a < 120; omega, x.2⟩
    obtain ⟨m, mm, e1, e2⟩ := h.2.1 (k.1, 120) w1 (by show k.1 ≤ _; omega) (Int.le_refl _) hb'
    have e2' : m.2 ≤ 120 := e2
    exact ⟨m, mm, e1, by omega⟩
theorem HbI.no {a b v : Int} {i : Nat} {ks : List (Int × Int)} (h : HbI a b v i ks) (n : ∀ g : Int, g ≤ 120 → ¬ BkB a b v ((i : Int) + 1, g)) : HbI a b v (i + 1) ks := by
  refine ⟨fun k hk => by have := h.1 k hk; exact ⟨this.1, by omega, this.2.2⟩, fun k w1 w2 g hb => ?_, by have := h.2.2; omega⟩
  by_cases c : k.1 = (i : Int) + 1
  · exfalso
    refine n k.2 g ?_
    rw [← c]
    exact hb
  · exact h.2.1 k w1 (by omega) g hb
theorem HbI.yes {a b v s : Int} {i : Nat} {ks : List (Int × Int)} (h : HbI a b v i ks) (s1 : 1 ≤ s) (s2 : s ≤ 120) (hb : BkB a b v ((i : Int) + 1, s)) (n : ∀ g : Int, g < s → ¬ BkB a b v ((i : Int) + 1, g)) : HbI a b v (i + 1) (ks ++ [((i : Int) + 1, s)]) := by
  refine ⟨fun k hk => ?_, fun k w1 w2 g hk => ?_, by have := h.2.2; rw [List.length_append]; simp; omega⟩
  · rcases List.mem_append.mp hk with x | x
    · have := h.1 k x
      exact ⟨this.1, by omega, this.2.2⟩
    · have e : k = ((i : Int) + 1, s) := by simpa using x
      subst e
      exact ⟨by show 1 ≤ (i : Int) + 1; omega, by show (i : Int) + 1 ≤ _; omega, s1, s2, hb⟩
  · by_cases c : k.1 = (i : Int) + 1
    · refine ⟨((i : Int) + 1, s), by simp, by show k.1 ≤ (i : Int) + 1; omega, ?_⟩
      show s ≤ k.2
      rcases Int.lt_or_le k.2 s with d | d
      · exfalso
        refine n k.2 d ?_
        rw [← c]
        exact hk
      · exact d
    · obtain ⟨m, mm, e⟩ := h.2.1 k w1 (by omega) g hk
      exact ⟨m, List.mem_append_left _ mm, e⟩
theorem HbI.nil (a b v : Int) : HbI a b v 0 [] := ⟨fun k hk => by simp at hk, fun k w1 w2 => by omega, by simp⟩
/-- the number of a kind, 0 where it is bad -/
def numN (a b : Int) (k : Int × Int) : Int := if sndB a b k = true then bkN a b k else 0
theorem num_is {a b v : Int} {k : Int × Int} (h1 : 1 ≤ a) (h2 : a < b) (h : BkB a b v k) (n : ∀ u : Int, 1 ≤ u → u < v → ¬ BkB a b u k) (h3 : b ≤ 12) (w1 : 1 ≤ k.1) : numN a b k = v := by
  have hs := bk_snd h
  unfold numN
  rw [if_pos hs]
  have up := (bk_iff h1 h2 hs).mp h
  have r := bk_range h1 h2 h3 w1 hs
  rcases Int.lt_or_le (bkN a b k) v with c | c
  · exact absurd ((bk_iff h1 h2 hs).mpr (Int.le_refl _)) (n _ r.1 c)
  · omega
theorem num_no {a b : Int} {k : Int × Int} (h1 : 1 ≤ a) (h2 : a < b) (n : ∀ u : Int, 1 ≤ u → u < 140 → ¬ BkB a b u k) (h3 : b ≤ 12) (w1 : 1 ≤ k.1) : numN a b k = 0 := by
  unfold numN
  by_cases hs : sndB a b k = true
  · have r := bk_range h1 h2 h3 w1 hs
    exact absurd ((bk_iff h1 h2 hs).mpr (Int.le_refl _)) (n _ r.1 (by omega))
  · rw [if_neg hs]
theorem num_zero {a b : Int} {k : Int × Int} (h1 : 1 ≤ a) (h2 : a < b) (h3 : b ≤ 12) (w1 : 1 ≤ k.1) : numN a b k = 0 ↔ sndB a b k = false := by
  unfold numN
  by_cases hs : sndB a b k = true
  · have r := bk_range h1 h2 h3 w1 hs
    rw [if_pos hs, hs]
    constructor
    · intro h
      omega
    · intro h
      exact absurd h (by decide)
  · rw [if_neg hs]
    simp only [Bool.not_eq_true] at hs
    rw [hs]
    simp

def sp_f_kind_booking (K : PySem.W.Frag) (C CK : Addr) : Sp := fun vs H Q E => ∃ (p : Addr) (a b w g : Int), vs = [.ref p, .int w, .int g] ∧ LacAt C H p a b ∧ 1 ≤ a ∧ a < b ∧ b ≤ 12 ∧ Small w ∧ Small g ∧ (¬ (1 ≤ w ∧ w ≤ 16 ∧ 1 ≤ g ∧ g ≤ 120) → E (.ref CK) none H) ∧
  (1 ≤ w ∧ w ≤ 16 ∧ 1 ≤ g ∧ g ≤ 120 → ∀ H' : Hp, Same H H' → Q (if sndB a b (w, g) = true then .int (bkN a b (w, g)) else .non) H')

def bksL (a b : Int) (ks : List (Int × Int)) : List Int := ks.map (bkN a b)
def sp_f_booking_needed (K : PySem.W.Frag) (C D : Addr) : Sp := fun vs H Q _ => ∃ (p c : Addr) (a b : Int) (ks : List (Int × Int)), vs = [.ref p, .ref c] ∧ LacAt C H p a b ∧ 1 ≤ a ∧ a < b ∧ b ≤ 12 ∧ ClimAt D H c ks ∧ GoodK ks ∧ ks.length ≤ 16 ∧
  ((badL a b ks).isEmpty = false → ∀ H' : Hp, Same H H' → Q .non H') ∧
  ((badL a b ks).isEmpty = true → ∀ (m : Int) (H' : Hp), Same H H' → m ∈ a :: bksL a b ks → (∀ y ∈ a :: bksL a b ks, y ≤ m) → Q (.int m) H')

def sp_f_greatest_booked (K : PySem.W.Frag) (C D CB : Addr) : Sp := fun vs H Q E => ∃ (p : Addr) (a b v : Int), vs = [.ref p, .int v] ∧ LacAt C H p a b ∧ 1 ≤ a ∧ a < b ∧ b ≤ 12 ∧ v < 100000 ∧ (v < 0 → E (.ref CB) none H) ∧ (0 ≤ v → v < a → Q .non H) ∧
  (a ≤ v → ∀ (x : Addr) (H' : Hp), Same H H' → ClimAt D H' x (pl (gbK a b v)) → Q (.ref x) H')

def sp_l_booked (K : PySem.W.Frag) : Sp := fun vs H Q _ => ∃ (t r : Addr) (a b v x : Int) (k : Int × Int), vs = [.ref t, .ref r, .int x, .int v] ∧ H t = some (.tup [.int a, .int b]) ∧ H r = some (.tup [.int k.1, .int k.2]) ∧ 1 ≤ a ∧ a < b ∧ b ≤ 12 ∧ x = ldd a b k.1 ∧ (BkB a b v k → Q (.bl true) H) ∧ (¬ BkB a b v k → Q (.bl false) H)

theorem ldd_small2 {a b w : Int} (h1 : 1 ≤ a) (h2 : a < b) (h3 : b ≤ 12) (hw : 1 ≤ w) (hw2 : w ≤ 1000) : 0 ≤ ldd a b w ∧ ldd a b w ≤ 20000 := by
  have l0 := ldd_nn h1 h2 hw
  have l1 := ldd_le h1 h2 hw
  have x3 : (w - 1) * a ≤ 1000 * 12 := Int.mul_le_mul (by omega) (by omega) (by omega) (by omega)
  omega
def sp_l_number (K : PySem.W.Frag) : Sp := fun vs H Q _ => ∃ (t r : Addr) (a b : Int) (k : Int × Int), vs = [.ref t, .ref r] ∧ H t = some (.tup [.int a, .int b]) ∧ H r = some (.tup [.int k.1, .int k.2]) ∧ 1 ≤ a ∧ a < b ∧ b ≤ 12 ∧ 1 ≤ k.1 ∧ k.1 ≤ 1000 ∧ Q (.int (numN a b k)) H

theorem num_small {a b : Int} {k : Int × Int} (h1 : 1 ≤ a) (h2 : a < b) (h3 : b ≤ 12) (w1 : 1 ≤ k.1) : 0 ≤ numN a b k ∧ numN a b k ≤ 139 := by
  unfold numN
  by_cases hs : sndB a b k = true
  · rw [if_pos hs]
    have := bk_range h1 h2 h3 w1 hs
    omega
  · rw [if_neg hs]
    omega
def sp_l_ahead (K : PySem.W.Frag) : Sp := fun vs H Q _ => ∃ (p t : Addr) (a b : Int), vs = [.ref p, .ref t] ∧ PoolAt H p ∧ H t = some (.tup [.int a, .int b]) ∧ 1 ≤ a ∧ a < b ∧ b ≤ 12 ∧
  ∀ (v : Int) (H' : Hp), -1000 ≤ v → v ≤ 1000 → PoolAt H' p → Chg p H H' → Q (.int v) H'

def Odd2 (x y : Int) : Prop := Small x ∧ Small y ∧ ¬ (1 ≤ x ∧ x ≤ 16 ∧ 1 ≤ y ∧ y ≤ 120)
def sp_l_odd : Sp := fun vs H Q _ => ∃ (p : Addr), vs = [.ref p] ∧ PoolAt H p ∧
  ∀ (t : Addr) (x y : Int) (H' : Hp), Odd2 x y → H t = none → t ≠ p → H' t = some (.tup [.int x, .int y]) → PoolAt H' p → Chg p H H' → Q (.ref t) H'
theorem odd_end {p t : Addr} {H H1 : Hp} {x y : Int} {Q : VK} (hP : PoolAt H p) (hP1 : PoolAt H1 p) (c : Chg p H H1) (ht : H1 t = none) (o : Odd2 x y)
    (q : ∀ (t : Addr) (x y : Int) (H' : Hp), Odd2 x y → H t = none → t ≠ p → H' t = some (.tup [.int x, .int y]) → PoolAt H' p → Chg p H H' → Q (.ref t) H') : Q (.ref t) (upd H1 t (.tup [.int x, .int y])) :=
  q t x y _ o (c.free hP1.some ht) (hP1.ne ht) upd_same (hP1.keep (same_upd ht)) (c.new ht hP1.some)

def sp_l_no_kind (C : Addr) : Sp := fun vs H Q _ => ∃ (p t : Addr) (a b x y : Int), vs = [.ref p, .ref t] ∧ LacAt C H p a b ∧ 1 ≤ a ∧ a < b ∧ b ≤ 12 ∧ H t = some (.tup [.int x, .int y]) ∧ Odd2 x y ∧ Q (.bl true) H

def sp_l_no_sight (C : Addr) : Sp := fun vs H Q _ => ∃ (p : Addr) (a b v : Int), vs = [.ref p, .int v] ∧ LacAt C H p a b ∧ 1 ≤ a ∧ a < b ∧ b ≤ 12 ∧ v < 0 ∧ Q (.bl true) H

def sp_l_highest (K : PySem.W.Frag) : Sp := fun vs H Q _ => ∃ (t : Addr) (a b v : Int), vs = [.ref t, .int v] ∧ H t = some (.tup [.int a, .int b]) ∧ 1 ≤ a ∧ a < b ∧ b ≤ 12 ∧
  ∀ (r : Addr) (zs : List V) (ms : List (Int × Int)) (H' : Hp), Same H H' → H r = none → H' r = some (.lst zs) → KVs H' zs (pl ms) → GoodK ms → Tells a b v ms → Q (.ref r) H'

theorem keep_up2 {ks : List (Int × Int)} (hg : GoodK ks) : ∀ (n : Nat) (w : Int), 1 ≤ w → w + n = 17 → 0 < lr ks w → ∃ u : Int, w ≤ u ∧ u ≤ 16 ∧ keepW ks u = true ∧ lr ks u = lr ks w
  | 0, w, w1, e, h => by
    have : lr ks w = 0 := (lr_iff hg.pos).mpr (.inl ⟨rfl, fun k hk => by have := hg k hk; omega⟩)
    omega
  | n + 1, w, w1, e, h => by
    by_cases c : lr ks w = lr ks (w + 1)
    · obtain ⟨u, u1, u2, u3, u4⟩ := keep_up2 hg n (w + 1) (by omega) (by omega) (by omega)
      exact ⟨u, by omega, u2, u3, by omega⟩
    · refine ⟨w, Int.le_refl _, by omega, ?_, rfl⟩
      unfold keepW
      (simp only [Bool.and_eq_true, decide_eq_true_eq])
      exact ⟨h, c⟩
theorem in_pl {ks : List (Int × Int)} (hg : GoodK ks) {k : Int × Int} (hk : k ∈ ks) : ∃ m ∈ pl ks, k.1 ≤ m.1 ∧ m.2 ≤ k.2 := by
  have g := hg k hk
  have z := lr_le hg.pos hk (Int.le_refl k.1)
  obtain ⟨u, u1, u2, u3, u4⟩ := keep_up2 hg (17 - k.1).toNat k.1 (by omega) (by omega) z.1
  exact ⟨(u, lr ks u), List.mem_map.mpr ⟨u, List.mem_filter.mpr ⟨upTo_mem.mpr (by omega), u3⟩, rfl⟩, u1, by show lr ks u ≤ k.2; omega⟩
theorem of_pl {ks : List (Int × Int)} (hg : GoodK ks) {k : Int × Int} (hk : k ∈ pl ks) : k ∈ ks := by
  obtain ⟨u, hu, rfl⟩ := List.mem_map.mp hk
  obtain ⟨k', m1, m2, m3⟩ := keep_mem hg.pos (List.mem_filter.mp hu).2
  have : k' = (u, lr ks u) := Prod.ext m2 m3
  rw [← this]
  exact m1
def dueF (a b : Int) (ks : List (Int × Int)) : Int := (ks.map (numN a b)).foldl max a
theorem dueF_snoc (a b : Int) (ks : List (Int × Int)) (k : Int × Int) : dueF a b (ks ++ [k]) = max (dueF a b ks) (numN a b k) := by
  unfold dueF
  rw [List.map_append, List.foldl_append]
  rfl
theorem num_end {a b m : Int} {ks : List (Int × Int)} (h1 : 1 ≤ a) (h2 : a < b) (h3 : b ≤ 12) (hg : GoodK ks) (hs : ∀ k ∈ ks, sndB a b k = true) (m1 : m ∈ a :: bksL a b (pl ks)) (m2 : ∀ y ∈ a :: bksL a b (pl ks), y ≤ m) : dueF a b ks = m := by
  obtain ⟨f1, f2, f3⟩ := foldl_max (ks.map (numN a b)) a
  have e : ∀ k ∈ ks, numN a b k = bkN a b k := fun k hk => by unfold numN; rw [if_pos (hs k hk)]
  have ma := m2 a List.mem_cons_self
  unfold dueF
  have up : (ks.map (numN a b)).foldl max a ≤ m := by
    rcases f3 with z | z
    · rw [z]
      exact ma
    · obtain ⟨k, hk, ek⟩ := List.mem_map.mp z
      obtain ⟨m', hm', g1, g2⟩ := in_pl hg hk
      have s' := hs m' (of_pl hg hm')
      have x := (bk_iff (v := bkN a b m') h1 h2 s').mpr (Int.le_refl _)
      have y := (bk_iff h1 h2 (hs k hk)).mp (bk_mono h1 h2 (hg k hk).1 x g1 g2)
      have w := m2 _ (List.mem_cons_of_mem _ (List.mem_map.mpr ⟨m', hm', rfl⟩))
      rw [← ek, e k hk]
      omega
  have dn : m ≤ (ks.map (numN a b)).foldl max a := by
    rcases List.mem_cons.mp m1 with z | z
    · rw [z]
      exact f1
    · obtain ⟨k, hk, ek⟩ := List.mem_map.mp z
      have hk' := of_pl hg hk
      have := f2 _ (List.mem_map.mpr ⟨k, hk', rfl⟩)
      rw [e k hk'] at this
      omega
  omega
def sp_l_numbers (K : PySem.W.Frag) (C D : Addr) : Sp := fun vs H Q _ => ∃ (p c t l : Addr) (a b : Int) (ys : List V) (ks : List (Int × Int)), vs = [.ref p, .ref c, .ref t, .ref l] ∧ LacAt C H p a b ∧ ClimAt D H c (pl ks) ∧ H t = some (.tup [.int a, .int b]) ∧ 1 ≤ a ∧ a < b ∧ b ≤ 12 ∧ H l = some (.lst ys) ∧ KVs H ys ks ∧ GoodK ks ∧ ∀ H' : Hp, Same H H' → Q (.bl true) H'

def sp_l_tops (K : PySem.W.Frag) (C D : Addr) : Sp := fun vs H Q _ => ∃ (p c t l : Addr) (a b v : Int) (ys : List V) (ks : List (Int × Int)), vs = [.ref p, .ref c, .ref t, .ref l, .int v] ∧ LacAt C H p a b ∧ ClimAt D H c (pl ks) ∧ H t = some (.tup [.int a, .int b]) ∧ 1 ≤ a ∧ a < b ∧ b ≤ 12 ∧ H l = some (.lst ys) ∧ KVs H ys ks ∧ GoodK ks ∧ ks.length ≤ 100 ∧ 0 ≤ v ∧ v ≤ 1000 ∧ ∀ H' : Hp, Same H H' → Q (.bl true) H'
def bkDec (a b v : Int) (k : Int × Int) : Bool := sndB a b k && ((decide (k.1 ≤ b - a) && decide (a + k.1 ≤ v)) || (decide (a < k.2) && decide (k.1 < v) && decide (2 * a ≤ v) && decide (ldd a b k.1 + a ≤ v)))
theorem bkDec_iff {a b v : Int} {k : Int × Int} : bkDec a b v k = true ↔ BkB a b v k := by
  unfold bkDec BkB
  rw [Bool.and_eq_true, sndB_iff]
  simp only [Bool.or_eq_true, Bool.and_eq_true, decide_eq_true_eq, and_assoc]
theorem bkDec_no {a b v : Int} {k : Int × Int} (h : ¬ BkB a b v k) : bkDec a b v k = false := Bool.eq_false_iff.mpr fun z => h (bkDec_iff.mp z)
theorem below_b {a b v : Int} {ks : List (Int × Int)} (h1 : 1 ≤ a) (h2 : a < b) (h3 : b ≤ 12) (hg : GoodK ks) : bnB (pl ks) (pl (gbK a b v)) = decide (((ks.filter (fun k => !bkDec a b v k)).length : Int) = 0) := by
  rw [Bool.eq_iff_iff, tells_bn h1 h2 hg (gbK_good h1 h2 h3) (gbK_tells h1 h2 h3), decide_eq_true_eq]
  constructor
  · intro h
    have e : ks.filter (fun k => !bkDec a b v k) = [] := List.filter_eq_nil_iff.mpr fun k hk => by rw [bkDec_iff.mpr (h k hk)]; simp
    rw [e]
    rfl
  · intro h k hk
    have e : ks.filter (fun k => !bkDec a b v k) = [] := List.eq_nil_of_length_eq_zero (by omega)
    have := (List.filter_eq_nil_iff.mp e) k hk
    exact bkDec_iff.mp (by simpa using this)
theorem tells_pl {a b v : Int} {ks : List (Int × Int)} (hg : GoodK ks) (h : ∀ k ∈ ks, BkB a b v k) : ∀ k ∈ pl ks, BkB a b v k := fun k hk => h k (of_pl hg hk)
theorem nms_eq {a b v : Int} {ks : List (Int × Int)} (h : ∀ k ∈ ks, BkB a b v k) : ks.map (numN a b) = bksL a b ks := by
  unfold bksL
  refine List.map_congr_left fun k hk => ?_
  unfold numN
  rw [if_pos (bk_snd (h k hk))]
theorem max_one {L : List Int} {m n : Int} (m1 : m ∈ L) (m2 : ∀ y ∈ L, y ≤ m) (n1 : n ∈ L) (n2 : ∀ y ∈ L, y ≤ n) : m = n := by
  have := m2 n n1
  have := n2 m m1
  omega
theorem gb_all {a b v : Int} (h1 : 1 ≤ a) (h2 : a < b) (h3 : b ≤ 12) : (badL a b (pl (gbK a b v))).isEmpty = true := by
  rw [sound_b h1 h2 (gbK_good h1 h2 h3)]
  exact List.all_eq_true.mpr fun k hk => bk_snd ((gbK_tells h1 h2 h3).1 k hk)
theorem gb_rise {a b v : Int} (h1 : 1 ≤ a) (h2 : a < b) (h3 : b ≤ 12) : bnB (pl (gbK a b v)) (pl (gbK a b (v + 1))) = true :=
  (tells_bn h1 h2 (gbK_good h1 h2 h3) (gbK_good h1 h2 h3) (gbK_tells h1 h2 h3)).mpr fun k hk => bk_up ((gbK_tells h1 h2 h3).1 k hk) (by omega)
theorem gb_seen {a b v : Int} (h1 : 1 ≤ a) (h2 : a < b) (h3 : b ≤ 12) (v0 : 0 ≤ v) : bnB (pl (gbK a b v)) (pl (seenK a b v)) = true := by
  have hg := gbK_good (v := v) h1 h2 h3
  refine (bn_seen h1 h2 h3 v0 hg).mpr ⟨fun k hk => bk_snd ((gbK_tells h1 h2 h3).1 k hk), fun k hk => ?_⟩
  rcases ((gbK_tells h1 h2 h3).1 k hk).2 with x | x
  · rw [lead_one h1 h2 (hg k hk).1 x.1]
    exact v0
  · omega

def sp_l_asked (K : PySem.W.Frag) (C D : Addr) : Sp := fun vs H Q _ => ∃ (t l od : Addr) (a b v x y : Int) (ys : List V) (ks : List (Int × Int)), vs = [.ref t, .ref l, .int v, .ref od] ∧ H t = some (.tup [.int a, .int b]) ∧ 1 ≤ a ∧ a < b ∧ b ≤ 12 ∧ H l = some (.lst ys) ∧ KVs H ys ks ∧ GoodK ks ∧ ks.length ≤ 100 ∧ -1000 ≤ v ∧ v ≤ 1000 ∧ H od = some (.tup [.int x, .int y]) ∧ Odd2 x y ∧
  ∀ H' : Hp, Same H H' → Q (.bl true) H'

def sp_l_law (K : PySem.W.Frag) : Sp := fun vs H Q _ => ∃ (a : Addr) (ns : List Int), vs = [.ref a] ∧ SqL K H a (ns.map V.int) ∧ ns.length ≤ 63 ∧ ∀ H', Q (.bl true) H'

local macro_rules | `(tactic| walk_at "hp") => `(tactic| first | assumption | exact upd_same | (rw [upd_ne (by walk_at "ne")]; walk_at "hp"))
local macro_rules | `(tactic| walk_at "ne") => `(tactic| first | assumption | (refine Ne.symm ?_; assumption) | exact ne_of_none (by assumption) (by assumption) | exact (ne_of_none (by assumption) (by assumption)).symm)
local macro_rules | `(tactic| walk_at "sq") => `(tactic| first | assumption | (apply SqL.of; walk_at "hp") | (apply SqT.of; walk_at "hp"))
local macro_rules | `(tactic| walk_at "sz") => `(tactic| first | assumption | exact Nat.lt_of_le_of_lt (by assumption) (by decide) | decide)
local macro_rules | `(tactic| walk_at "sd") => `(tactic| first | assumption | rfl | trivial | decide | omega)
local macro_rules | `(tactic| walk_at "ty") => `(tactic| first | assumption | exact TyX.base (TyOf.int _) | exact TyX.base (TyOf.bl _) | exact TyX.base (TyOf.str _) | exact TyX.base TyOf.non | (refine TyX.base (TyOf.ins (by walk_at "hp") (by walk_at "cl") (by walk_at "ca") (by walk_at "cn") (by walk_at "ct") (by walk_at "co"))) | exact TyX.base (TyOf.lst (by walk_at "hp")) | exact TyX.base (TyOf.tup (by walk_at "hp")))
local macro_rules | `(tactic| walk_at "lk") => `(tactic| first | rfl | (simp [List.lookup]; done))
local macro_rules | `(tactic| walk_at "cm") => `(tactic| first | assumption | exact .inl (by decide) | exact .inr (by decide) | exact .inl ⟨by omega, by omega⟩ | exact .inr ⟨by omega, by omega⟩)
local macro_rules | `(tactic| walk_at "mw") => `(tactic| first | assumption | exact wide_mul (by assumption) (by assumption) (by decide) (by decide) (by decide))
local macro_rules | `(tactic| walk_at "l2") => `(tactic| first | assumption | exact R.l2 (by assumption) (by decide) (by decide))
local macro_rules | `(tactic| walk_at "sl") => `(tactic| assumption)
local macro_rules | `(tactic| walk_at "cd") => `(tactic| first | assumption | decide | exact ⟨by omega, by omega⟩)
local macro_rules | `(tactic| walk_at "r1") => `(tactic| first | (with_reducible refine R.seq ?_) | (with_reducible refine R.asg ?_) | (with_reducible refine R.op ?_) | (with_reducible refine R.cst ?_) | (with_reducible refine R.i0 ?_) | (with_reducible refine R.cons ?_) | (with_reducible refine R.nil ?_) | (with_reducible refine R.cb ?_) | (with_reducible refine R.call ?_) | (with_reducible refine R.lst ?_) | (with_reducible refine R.tup ?_) | (with_reducible refine R.ifS ?_) | (with_reducible refine R.test ?_) | (with_reducible refine R.tbl ?_) | (with_reducible refine R.exb ?_) | (with_reducible refine R.exb' ?_) | (with_reducible refine R.ret ?_) | (with_reducible refine R.nxt ?_) | (with_reducible refine R.drop ?_) | (with_reducible refine R.retN ?_) | (with_reducible refine R.uI ?_) | (with_reducible refine R.un ?_) | (with_reducible refine R.eqII ?_) | (with_reducible refine R.neII ?_) | (with_reducible refine R.eqBB ?_) | (with_reducible refine R.neBB ?_) | (with_reducible refine R.eqSS ?_) | (with_reducible refine R.neSS ?_) | (with_reducible refine R.and ?_) | (with_reducible refine R.or ?_) | (with_reducible refine R.not ?_) | (with_reducible refine R.andV ?_) | (with_reducible refine R.orV ?_) | (with_reducible refine R.notV ?_) | (with_reducible refine R.isN ?_) | (with_reducible refine R.notN ?_) | (with_reducible refine R.chain ?_) | (with_reducible refine R.int1 ?_) | (with_reducible refine R.int1b ?_) | (with_reducible refine R.abs1 ?_) | (with_reducible refine R.sfld ?_) | (with_reducible refine R.gcd ?_) | (with_reducible refine R.yes ?_) | (with_reducible refine R.makeN ?_) | (with_reducible refine R.lc ?_) | (with_reducible refine R.forS ?_) | (with_reducible refine R.rng1 ?_) | (with_reducible refine R.rng2 ?_) | (with_reducible refine R.make ?_) | (with_reducible refine R.makeS ?_) | (with_reducible refine R.meth ?_) | (with_reducible refine R.jcons ?_) | (with_reducible refine R.jnil ?_) | (with_reducible refine R.max2 ?_) | (with_reducible refine R.min2 ?_) | (with_reducible refine R.gsub ?_) | (with_reducible refine R.brk ?_) | (with_reducible refine R.cnt ?_) | (with_reducible refine R.fld ?_) | (with_reducible refine R.ifE ?_) | (with_reducible refine R.callS ?_) | (with_reducible refine R.slc ?_) | (with_reducible refine R.nopart ?_) | (with_reducible refine R.part ?_) | (with_reducible refine R.partx ?_) | (with_reducible refine R.eqI ?_) | (with_reducible refine R.isN2 ?_) | (with_reducible refine R.star ?_) | (with_reducible refine R.cmeth ?_) | (with_reducible refine R.notN2 ?_) | (with_reducible refine R.chain3 ?_) | (with_reducible refine R.tcv ?_) | (with_reducible refine R.prop ?_) | (with_reducible refine R.dnew ?_) | (with_reducible refine R.dget ?_) | (with_reducible refine R.dget2 ?_) | (with_reducible refine R.dput ?_) | (with_reducible refine R.revl ?_) | (with_reducible refine R.ckw ?_) | (with_reducible refine R.min3 ?_) | (with_reducible refine R.max3 ?_) | (with_reducible refine R.ilst ?_) | (with_reducible refine R.itup ?_) | (with_reducible refine R.iown ?_) | (with_reducible refine R.gcons ?_) | (with_reducible refine R.gnil ?_) | (with_reducible refine R.nott ?_) | (with_reducible refine R.bm ?_) | (with_reducible refine iteF ?_) | (with_reducible refine iteT ?_) | (with_reducible refine R.iteNt ?_) | (with_reducible refine R.iteNf ?_) | (with_reducible refine R.v0 ?_) | (with_reducible refine R.v1 ?_) | (with_reducible refine R.v2 ?_) | (with_reducible refine R.v3 ?_) | (with_reducible refine R.v4 ?_) | (with_reducible refine R.v5 ?_) | (with_reducible refine R.v6 ?_) | (with_reducible refine R.v7 ?_) | (with_reducible refine R.v8 ?_) | (with_reducible refine R.v9 ?_) | (with_reducible refine R.v10 ?_) | (with_reducible refine R.v11 ?_) | (with_reducible refine R.v12 ?_) | (with_reducible refine R.v13 ?_) | (with_reducible refine R.v14 ?_) | (with_reducible refine R.v15 ?_) | (with_reducible refine R.v16 ?_) | (with_reducible refine R.v17 ?_) | (with_reducible refine R.v18 ?_) | (with_reducible refine R.v19 ?_) | (with_reducible refine R.v20 ?_) | (with_reducible refine R.v21 ?_) | (with_reducible refine R.v22 ?_) | (with_reducible refine R.v23 ?_) | (with_reducible refine R.v24 ?_) | (with_reducible refine R.v25 ?_) | (with_reducible refine R.g0 ?_) | (with_reducible refine R.g1 ?_) | (with_reducible refine R.g2 ?_) | (with_reducible refine R.g3 ?_) | (with_reducible refine R.g4 ?_) | (with_reducible refine R.g5 ?_) | (with_reducible refine R.g6 ?_) | (with_reducible refine R.g7 ?_) | (with_reducible refine R.g8 ?_) | (with_reducible refine R.g9 ?_) | (with_reducible refine R.g10 ?_) | (with_reducible refine R.g11 ?_) | (with_reducible refine R.g12 ?_) | (with_reducible refine R.g13 ?_) | (with_reducible refine R.g14 ?_) | (with_reducible refine R.g15 ?_) | (with_reducible refine R.g16 ?_) | (with_reducible refine R.g17 ?_) | (with_reducible refine R.g18 ?_) | (with_reducible refine R.g19 ?_) | (with_reducible refine R.g20 ?_) | (with_reducible refine R.g21 ?_) | (with_reducible refine R.g22 ?_) | (with_reducible refine R.g23 ?_) | (with_reducible refine R.g24 ?_) | (with_reducible refine R.g25 ?_) | ((with_reducible apply R.cvx); (case hr => walk_at "cr"); (case hk => walk_at "cv")) | ((with_reducible apply R.propx); (case h => walk_at "hp")) | ((with_reducible apply R.dget2x); (case h => walk_at "hp")) | ((with_reducible apply R.dgeto); (case h => walk_at "hp")) | ((with_reducible apply R.revlx); (case h => walk_at "sq")) | ((with_reducible apply R.tupL); (case h => walk_at "sq")) | ((with_reducible apply R.lstL); (case h => walk_at "sq")) | ((with_reducible apply R.lstT); (case h => walk_at "sq")) | ((with_reducible apply R.iterT); (case h => walk_at "sq")) | ((with_reducible apply R.ilstx); (case h => walk_at "sq")) | ((with_reducible apply R.itupx); (case h => walk_at "sq")) | ((with_reducible apply R.gtup); (case h => walk_at "sq"); (case e => rfl)) | ((with_reducible apply R.truL); (case h => walk_at "sq")) | ((with_reducible apply R.gw); (case e => (simp only [wipe, List.map_cons, List.map_nil, List.set_cons_zero, List.set_cons_succ]; rfl))) | ((with_reducible apply R.starx); (case h => walk_at "sq")) | ((with_reducible apply R.starl); (case h => walk_at "sq")) | ((with_reducible apply R.makeL); (case h => rfl)) | ((with_reducible apply R.sll); (case h => walk_at "sq")) | ((with_reducible apply R.dputx); (case h => walk_at "hp"); (case hl => walk_at "sz")) | ((with_reducible apply R.bmx); (case h => walk_at "hp")) | ((with_reducible apply R.app); (case h => walk_at "hp"); (case hl => walk_at "sz")) | ((with_reducible apply R.ins); (case h => walk_at "hp"); (case hl => walk_at "sz"); (case h0 => first | assumption | omega); (case h1 => first | assumption | omega)) | ((with_reducible apply R.ixl); (case h => walk_at "sq"); (case e => first | assumption | rfl)) | ((with_reducible apply R.ixt); (case h => walk_at "sq"); (case e => first | assumption | rfl)) | ((with_reducible apply R.setl); (case h => walk_at "hp"); (case e => rfl)) | ((with_reducible apply R.methx); (case h => walk_at "hp"); (case e => walk_at "lk")) | ((with_reducible apply R.own2); (case ha => walk_at "hp"); (case hb => walk_at "hp")) | ((with_reducible apply R.own1); (case ha => walk_at "hp")) | ((with_reducible apply R.inOwn); (case ha => walk_at "hp")) | ((with_reducible apply R.strI); (case h => walk_at "l2")) | ((with_reducible apply R.fmtI); (case h => walk_at "l2")) | ((with_reducible apply R.jstr); (case h => walk_at "sl")) | ((with_reducible apply R.addS); (case h => walk_at "sl")) | ((with_reducible apply R.sfldx); (case h => walk_at "hp"); (case hc => walk_at "cl"); (case hn => walk_at "na"); (case e => first | decide | (show _ < _; simp [putF]; done))) | ((with_reducible apply R.isi); (case hc => first | exact ClsV.ty _ | exact ClsV.own _); (case ht => walk_at "ty"); (case e => assumption)) | ((with_reducible apply R.isEE); (case hE => walk_at "ex"); (case hc => exact fun _ h => h); (case e => assumption)) | ((with_reducible apply R.fldx); (case h => walk_at "hp"); (case hc => walk_at "cl"); (case hn => walk_at "na"); (case e => walk_at "lk")) | ((with_reducible apply R.lnew); (case h => first | assumption | (refine Nat.le_trans (m := 64) ?_ (by decide); simp; done))) | ((with_reducible apply R.mul); (case h => walk_at "cm")) | ((with_reducible apply R.mod); (case h => first | assumption | decide | omega)) | ((with_reducible apply R.div); (case h => walk_at "cd")) | ((with_reducible apply R.divA); (case h => assumption)) | ((with_reducible apply R.divW); (case h => assumption)) | ((with_reducible apply R.mulW); (case h => walk_at "mw")) | ((with_reducible apply R.pow); (case h => first | decide | exact ⟨by omega, by omega, by omega⟩)) | ((with_reducible apply R.lenL); (case h => walk_at "sq")) | ((with_reducible apply R.wip); (case e => rfl)) | ((with_reducible apply R.rng1x); (case h => first | decide | omega); (case h2 => first | decide | omega)) | ((with_reducible apply R.rng2x); (case h => first | decide | (refine ⟨?_, ?_, ?_, ?_⟩ <;> omega))) | ((with_reducible apply R.lenT); (case h => walk_at "sq")) | (with_reducible apply R.iteDT (by first | assumption | omega | rfl)) | (with_reducible apply R.iteDF (by first | assumption | omega | exact R.nbn | exact R.nin | exact R.nsn | exact R.nrn)) | (with_reducible apply R.iteNT (by first | assumption | omega | exact R.nbn | exact R.nin | exact R.nsn | exact R.nrn)) | (with_reducible apply R.iteNF (by first | assumption | omega | rfl)) | ((fail_if_success (with_reducible show ∃ (W : Nat → Nat → L2.St → Hp → Prop), _)); (fail_if_success (with_reducible show ∃ (W : Nat → Nat → Hp → Prop), _)); first | dsimp only [wipe, List.map_cons, List.map_nil, List.set_cons_zero, List.set_cons_succ] | dsimp only))
local macro_rules | `(tactic| walk_at "sp") => `(tactic| first | refine R.iteD (fun _ => ?_) (fun _ => ?_) | refine R.iteDN (fun _ => ?_) (fun _ => ?_) | refine R.iteN (fun _ => ?_) (fun _ => ?_) | refine R.ite (fun _ => ?_) (fun _ => ?_))
local macro_rules | `(tactic| walk_at "rd") => `(tactic| repeat walk_at "r1")
local macro_rules | `(tactic| walk_at "cl") => `(tactic| first | assumption | exact S_Lacquer.cl (by assumption) | exact S_Climate.cl (by assumption))
local macro_rules | `(tactic| walk_at "na") => `(tactic| first | assumption | exact S_Lacquer.n_a (by assumption) | exact S_Lacquer.n_b (by assumption) | exact S_Climate.n_kinds (by assumption))
local macro_rules | `(tactic| walk_at "cr") => `(tactic| first | assumption | exact S_Lacquer.cr (by assumption))
local macro_rules | `(tactic| walk_at "cv") => `(tactic| first | assumption | exact S_Lacquer.v_MOST (by assumption))
local macro_rules | `(tactic| walk_at "ex") => `(tactic| first | assumption | exact S_DampError.ex (by assumption) | exact S_BadLacquer.ex (by assumption) | exact S_BadKind.ex (by assumption) | exact S_BadNumber.ex (by assumption) | exact S_TooLarge.ex (by assumption))
local macro_rules | `(tactic| walk_at "ca") => `(tactic| first | assumption | exact S_Lacquer.ha (by assumption) | exact S_Climate.ha (by assumption))
local macro_rules | `(tactic| walk_at "cn") => `(tactic| first | assumption | exact S_Lacquer.hn (by assumption) | exact S_Climate.hn (by assumption))
local macro_rules | `(tactic| walk_at "ct") => `(tactic| first | assumption | exact S_Lacquer.ht (by assumption) | exact S_Climate.ht (by assumption))
local macro_rules | `(tactic| walk_at "co") => `(tactic| first | assumption | exact S_Lacquer.hm (by assumption) | exact S_Climate.hm (by assumption))
set_option maxHeartbeats 4000000
set_option exponentiation.threshold 20000
section
variable {P : Program} {w : World} {K : PySem.W.Frag} {mg : Str → Option Value} {base : Heap}
theorem ok_f_check_kind {f : Addr} {fd : FuncData} (F : L2.Fun K "check_kind" "check_kind" s_f_check_kind f fd)
    {C_BadKind : Addr} (T_BadKind : S_BadKind K mg C_BadKind)
    (g_MOST_RUN : ∃ u, mg "MOST_RUN" = some u ∧ RelV (.int 120) u)
    (g_MOST_SPELL : ∃ u, mg "MOST_SPELL" = some u ∧ RelV (.int 16) u) :
    FnOk P w K mg base (L2.CX P w) 1 f fd ["w", "g"] (sp_f_check_kind C_BadKind) := by
  refine F.okX sc_f_check_kind (fun vs H Q E h => ?_) (fun cdv A outer s H vs Q E hr h => ?_)
  · obtain ⟨w, g, rfl, _⟩ := h
    rfl
  · obtain ⟨w, g, rfl, sw, sg, k0, k1⟩ := h
    refine ⟨_, (pss_one (ps_if (PW.pt (pw_or (pt_not (pt_chain op_le op_le pe_int (pv 0) (C8.pe_gc (by rfl) g_MOST_SPELL))) (pw_or1 (pt_not (pt_chain op_le op_le pe_int (pv 1) (C8.pe_gc (by rfl) g_MOST_RUN))))))
      (pss_one (ps_raise rfl (takes_of rfl rfl rfl rfl) (SkE.pmk_own1 PySem.F.excBase_ValueError T_BadKind.x T_BadKind.mg T_BadKind.kp (raises_own T_BadKind.b T_BadKind.t) rfl (pe_joined (PJ.cons pe_str (PJ.cons (OW.pe_fmtU (pv 0)) (PJ.cons pe_str (PJ.cons (OW.pe_fmtU (pv 1)) (PJ.cons pe_str PJ.nil)))))))))
      pss_nil)), ?_⟩
    rw [show L2.start ["w", "g"] [.int w, .int g] = [some (.int w), some (.int g)] from rfl]
    walk_at "rd"
    refine R.iteD (fun c1 => ?_) (fun c1 => ?_)
    · walk_at "rd"
      refine R.iteN (fun c2 => ?_) (fun c2 => ?_)
      · rw [if_pos rfl]
        refine kind_text sw sg fun out => ?_
        have c2' := of_decide_eq_false c2
        exact k0 (by omega)
      · have c2' := of_decide_eq_true c2
        walk_at "rd"
        refine R.iteD (fun c3 => ?_) (fun c3 => ?_)
        · walk_at "rd"
          refine R.iteN (fun c4 => ?_) (fun c4 => ?_)
          · refine kind_text sw sg fun out => ?_
            have c4' := of_decide_eq_false c4
            exact k0 (by omega)
          · have c4' := of_decide_eq_true c4
            walk_at "rd"
            exact k1 (by omega)
        · refine ⟨false, rfl, ?_⟩
          (rw [if_pos (show (!false) = true from rfl)])
          refine kind_text sw sg fun out => ?_
          exact k0 (by omega)
    · refine ⟨false, rfl, ?_⟩
      rw [if_pos (show (!false) = true from rfl), if_pos rfl]
      refine kind_text sw sg fun out => ?_
      exact k0 (by omega)

theorem ok_f_check_kinds {f : Addr} {fd : FuncData} (F : L2.Fun K "check_kinds" "check_kinds" s_f_check_kinds f fd)
    {C_BadKind : Addr} (T_BadKind : S_BadKind K mg C_BadKind)
    (z_len : mg "len" = none)
    (g_MOST_KINDS : ∃ u, mg "MOST_KINDS" = some u ∧ RelV (.int 300) u)
    {f_f_check_kind : Addr} {fd_f_check_kind : FuncData} (G_f_check_kind : FnOk P w K mg base (L2.CX P w) 1 f_f_check_kind fd_f_check_kind ["w", "g"] (sp_f_check_kind C_BadKind)) (m_f_check_kind : mg "check_kind" = some (.ref f_f_check_kind)) (k_f_check_kind : PySem.W.keepIn K (.ref f_f_check_kind) = true) (b_f_check_kind : Binds K fd_f_check_kind ["w", "g"] []) :
    FnOk P w K mg base CX0 2 f fd ["kinds"] (sp_f_check_kinds K) := by
  refine F.ok sc_f_check_kinds (fun vs H Q E h => ?_) (fun cdv A outer s H vs Q E hr h => ?_)
  · obtain ⟨l, ys, ks, rfl, _⟩ := h
    rfl
  · obtain ⟨l, ys, ks, rfl, hS, hk, hn, hg, q⟩ := h
    refine ⟨_, (pss_cons (ps_if (pt_cmpR op_gt (pe_callB OW.c_len (by rfl) z_len (by decide +kernel) (pa_cons (pv 0) pa_nil)) (C8.pe_gc (by rfl) g_MOST_KINDS) (nomark _))
      (pss_one ps_never)
      pss_nil)
      (pss_one (ps_for PassesOwn.never rfl (pi_list (pv 0)) (pg_tup rfl (pgs_cons (pg_name (i := 1) sc_f_check_kinds.nd rfl (by first | exact Or.inl rfl | exact Or.inr rfl)) (pgs_cons (pg_name (i := 2) sc_f_check_kinds.nd rfl (by first | exact Or.inl rfl | exact Or.inr rfl)) pgs_nil)))
      (pss_one (ps_expr (pe_call G_f_check_kind (hr.mono (by decide)) (by rfl) m_f_check_kind k_f_check_kind b_f_check_kind .nil passL (pa_cons (pv 1) (pa_cons (pv 2) pa_nil)))))))), ?_⟩
    rw [show L2.start ["kinds", "w", "g"] [.ref l] = [some (.ref l), none, none] from rfl]
    have hl := hk.len
    walk_at "rd"
    refine R.forL (xs := ys) (fun i σ H' => ∃ v w, σ = [some (.ref l), v, w] ∧ H' = H) ⟨none, none, rfl, rfl⟩ (fun _ _ _ _ ⟨_, _, _, e⟩ => e ▸ hS) ?_ ?_
    · rintro i x σ H1 hx ⟨v, w, rfl, rfl⟩
      obtain ⟨k, t, h1, rfl, ht⟩ := hk.at hx
      have g0 := hg k (List.mem_of_getElem? h1)
      walk_at "rd"
      refine ⟨_, _, rfl, ⟨by omega, by omega⟩, ⟨by omega, by omega⟩, fun h => absurd g0 h, fun _ => ?_⟩
      walk_at "rd"
      exact ⟨_, _, rfl, rfl⟩
    · rintro σ H1 ⟨v, w, rfl, rfl⟩
      walk_at "rd"
      exact q

theorem ok_f_plain_list {f : Addr} {fd : FuncData} (F : L2.Fun K "plain_list" "plain_list" s_f_plain_list f fd)
    (z_min : mg "min" = none)
    (z_sorted : mg "sorted" = none) :
    FnOk P w K mg base CX0 1 f fd ["kinds"] (sp_f_plain_list K) := by
  refine F.ok sc_f_plain_list (fun vs H Q E h => ?_) (fun cdv A outer s H vs Q E hr h => ?_)
  · obtain ⟨l, ys, ks, rfl, _⟩ := h
    rfl
  · obtain ⟨l, ys, ks, rfl, hS, hk, hn, hg, q⟩ := h
    refine ⟨_, (pss_cons (ps_set (i := 1) sc_f_plain_list.nd rfl (by first | exact Or.inl rfl | exact Or.inr rfl) pe_dnewK)
      (pss_cons (ps_for PassesOwn.never rfl (pi_list (pv 0)) (pg_tup rfl (pgs_cons (pg_name (i := 2) sc_f_plain_list.nd rfl (by first | exact Or.inl rfl | exact Or.inr rfl)) (pgs_cons (pg_name (i := 3) sc_f_plain_list.nd rfl (by first | exact Or.inl rfl | exact Or.inr rfl)) pgs_nil)))
      (pss_one (ps_dput (hu_of hr) (pv 1) (pv 2) (pe_callB (OW.c_min2 rfl) (by rfl) z_min (by decide +kernel) (pa_cons (pv 3) (pa_cons (pe_dget2 (hu_of hr) (pv 1) (pv 2) (pv 3) ⟨by rfl, by rfl, by rfl, by rfl⟩) pa_nil))) rfl)))
      (pss_cons (ps_set (i := 4) sc_f_plain_list.nd rfl (by first | exact Or.inl rfl | exact Or.inr rfl) (pe_lst pa_nil))
      (pss_cons (ps_for PassesOwn.never rfl (pi_list (pe_callBK (OW.c_sortDR rfl) (by rfl) z_sorted (by decide +kernel) (pa_cons (pv 1) pa_nil) (pk_cons pe_bl pk_nil))) (pg_name (i := 2) sc_f_plain_list.nd rfl (by first | exact Or.inl rfl | exact Or.inr rfl))
      (pss_one (ps_if (PW.pt (pw_or (pt_not (pt_truth (pv 4) (by intro _; rfl))) (pw_or1 (pt_cmpR op_lt (pe_dget (hu_of hr) (pv 1) (pv 2) (fun _ _ => rfl)) (pe_ix ix_tup (pe_ix ix_list (pv 4) (pe_un un_neg pe_int) (fun _ _ => rfl)) pe_int (fun _ _ => rfl)) (nomark _)))))
      (pss_one (ps_expr (pe_bm PySem.F.plainAttrs_list PySem.F.slot_list_append PySem.F.type_list_append mt_append (pv 4) (pa_cons (pe_tup (pa_cons (pv 2) (pa_cons (pe_dget (hu_of hr) (pv 1) (pv 2) (fun _ _ => rfl)) pa_nil))) pa_nil))))
      pss_nil)))
      (pss_one (ps_ret (pe_revL (pv 4)))))))), ?_⟩
    rw [show L2.start ["kinds", "least", "w", "g", "plain"] [.ref l] = [some (.ref l), none, none, none, none] from rfl]
    have hl := hk.len
    walk_at "rd"
    intro d hd
    walk_at "rd"
    have hS2 : ∀ o, SqL K (upd H d o) l ys := fun o => Same.seq (same_upd hd) hS
    refine R.ilstx (hS2 _) ?_
    refine R.forL (xs := ys) (fun i σ H' => ∃ v w p, σ = [some (.ref l), some (.ref d), v, w, p] ∧ ∃ kvs, H' = upd H d (.dK kvs) ∧ DI (ks.take i) kvs) ⟨none, none, none, rfl, [], rfl, DI.nil⟩ (fun _ _ _ _ ⟨_, _, _, _, _, e, _⟩ => e ▸ hS2 _) ?_ ?_
    · rintro i x σ H1 hx ⟨v, w, p, rfl, kvs, rfl, hD⟩
      obtain ⟨k, t, h1, rfl, ht⟩ := hk.at hx
      have ht1 : upd H d (.dK kvs) t = some (.tup [.int k.1, .int k.2]) := by rw [upd_ne (ne_of_none ht hd)]; exact ht
      have il := (List.getElem?_eq_some_iff.mp h1).1
      have hsz : kvs.length < sizeLine := by
        obtain ⟨ws, e1, _, _, _, e2⟩ := id hD
        have e3 := congrArg List.length e1
        rw [List.length_map, List.length_map] at e3
        rw [List.length_take] at e2
        exact Nat.lt_of_le_of_lt (m := 300) (by omega) (by decide)
      have step := hD.put (k := k)
      rw [show ks.take i ++ [k] = ks.take (i + 1) by rw [List.take_add_one, h1]; rfl] at step
      have val := hD.val k.1
      walk_at "rd"
      rw [val]
      cases hm : mw (ks.take i) k.1 with
      | none =>
        rw [hm] at step
        simp only [Option.map_none, Option.getD_none]
        walk_at "rd"
        refine ⟨_, _, _, rfl, _, upd_upd, ?_⟩
        rw [min_py, show min k.2 k.2 = k.2 by omega]
        exact step
      | some m =>
        rw [hm] at step
        (simp only [Option.map_some, Option.getD_some])
        walk_at "rd"
        refine ⟨_, _, _, rfl, _, upd_upd, ?_⟩
        rw [min_py]
        exact step
    · rintro σ H1 ⟨v, w, p, rfl, kvs, rfl, hD⟩
      rw [hl, List.take_length] at hD
      obtain ⟨ws, w1, w2, w3, w4, w5⟩ := id hD
      walk_at "rd"
      intro r hr
      have hdr : upd (upd H d (.dK kvs)) r (.lst []) d = some (.dK kvs) := by rw [upd_ne (ne_of_none upd_same hr)]; exact upd_same
      walk_at "rd"
      refine ⟨d, kvs, ws, rfl, rfl, .inl hdr, w1, fun yy o y1 y2 ho => ?_⟩
      have ydesc : yy.Pairwise (· > ·) := (List.pairwise_and_iff.mpr ⟨y2, y1.nodup_iff.mpr w2⟩).imp fun {a b} h => by
        have h1 : a ≥ b := h.1
        have h2 : a ≠ b := h.2
        show a > b
        omega
      have ymem : ∀ w, w ∈ yy ↔ ∃ k ∈ ks, k.1 = w := fun w => y1.mem_iff.trans (w3 w)
      have hro := ne_of_none (show upd (upd H d (.dK kvs)) r (.lst []) r = some (.lst []) from upd_same) ho
      have hdo := ne_of_none hdr ho
      have S1 : Same H (upd (upd H d (.dK kvs)) r (.lst [])) := same_new (same_upd hd) ((same_upd hd).free hr)
      have S0 : Same H (upd (upd (upd H d (.dK kvs)) r (.lst [])) o (.lst (yy.map V.int))) := same_new S1 (S1.free ho)
      refine R.ilstx (SqL.of upd_same) ?_
      refine R.forL (xs := yy.map V.int) (fun i σ H' => ∃ v w, σ = [some (.ref l), some (.ref d), v, w, some (.ref r)] ∧ ∃ zs, H' d = some (.dK kvs) ∧ H' r = some (.lst zs) ∧ H' o = some (.lst (yy.map V.int)) ∧ Same H H' ∧ KVs H' zs (stI ks yy i) ∧ zs.length ≤ i)
        ⟨v, w, rfl, [], ?_, ?_, upd_same, S0, .nil, Nat.le_refl _⟩ (fun _ _ _ _ ⟨_, _, _, _, _, _, e, _⟩ => SqL.of e) ?_ ?_
      · rw [upd_ne hdo]
        exact hdr
      · rw [upd_ne hro]
        exact upd_same
      · rintro i x σ H1 hx ⟨v, w0, rfl, zs, g1, g2, g3, sm, gk, gl⟩
        rw [List.getElem?_map] at hx
        obtain ⟨w, hw, rfl⟩ := Option.map_eq_some_iff.mp hx
        have il := (List.getElem?_eq_some_iff.mp hw).1
        obtain ⟨m, em⟩ := mw_of ((ymem w).mp (List.mem_of_getElem? hw))
        have hval : valV kvs (Sum.inl w) = some (.int m) := by rw [w4, em]; rfl
        have yl : yy.length = ws.length := y1.length_eq
        have zsz : zs.length < sizeLine := Nat.lt_of_le_of_lt (m := 300) (by omega) (by decide)
        have sucT : keepW ks w = true → lr ks w = m → stI ks yy (i + 1) = stI ks yy i ++ [(w, m)] := fun c1 c2 => by rw [stI_succ hw, if_pos c1, c2]
        have sucF : keepW ks w = false → stI ks yy (i + 1) = stI ks yy i := fun c1 => by rw [stI_succ hw, if_neg (by rw [c1]; simp), List.append_nil]
        have fin : keepW ks w = true → lr ks w = m → ∀ t, H1 t = none → ∃ v w_1, [some (V.ref l), some (V.ref d), some (V.int w), w0, some (V.ref r)] = [some (V.ref l), some (V.ref d), v, w_1, some (V.ref r)] ∧
            ∃ zs', upd (upd H1 t (.tup [.int w, .int m])) r (.lst (zs ++ [.ref t])) d = some (.dK kvs) ∧ upd (upd H1 t (.tup [.int w, .int m])) r (.lst (zs ++ [.ref t])) r = some (.lst zs') ∧ upd (upd H1 t (.tup [.int w, .int m])) r (.lst (zs ++ [.ref t])) o = some (.lst (yy.map V.int)) ∧
              Same H (upd (upd H1 t (.tup [.int w, .int m])) r (.lst (zs ++ [.ref t]))) ∧ KVs (upd (upd H1 t (.tup [.int w, .int m])) r (.lst (zs ++ [.ref t]))) zs' (stI ks yy (i + 1)) ∧ zs'.length ≤ i + 1 := by
          intro c1 c2 t ht
          have g2' : upd H1 t (.tup [.int w, .int m]) r = some (.lst zs) := by rw [upd_ne (ne_of_none g2 ht)]; exact g2
          have rt : t ≠ r := (ne_of_none g2 ht).symm
          refine ⟨_, _, rfl, zs ++ [.ref t], ?_, upd_same, ?_, fun b u e => ?_, ?_, by simp; omega⟩
          · rw [upd_ne (ne_of g1 g2 (by intro z; cases z)), upd_ne (ne_of_none g1 ht)]
            exact g1
          · rw [upd_ne hro.symm, upd_ne (ne_of_none g3 ht)]
            exact g3
          · have rb : b ≠ r := ne_of_none e (show H r = none from (same_upd hd).free hr)
            rw [upd_ne rb, upd_ne (ne_of_none (sm _ _ e) ht)]
            exact sm _ _ e
          · rw [sucT c1 c2]
            refine gk.snoc (t := t) ((TK.new ht).trans (.lst g2')) ?_
            rw [upd_ne rt]
            exact upd_same
        rcases st_turn hg.pos ydesc ymem i w m hw em with ⟨s0, c1, c2⟩ | ⟨init, x, s1, c⟩
        · have z0 : zs = [] := by
            have := gk.len
            rw [s0] at this
            exact List.eq_nil_of_length_eq_zero this
          subst z0
          walk_at "rd"
          refine R.iteT' rfl ?_
          walk_at "rd"
          refine R.dgetx g1 hval ?_
          walk_at "rd"
          intro t ht
          walk_at "rd"
          exact fin c1 c2 t ht
        · rw [s1] at gk
          obtain ⟨z1, zl, ez, p1⟩ := gk.last
          have hlast : atI zs (-1) = some (V.ref zl) := by rw [ez]; exact atI_last _ _
          have nemp : (!(!zs.isEmpty)) = false := by rw [ez]; simp
          walk_at "rd"
          refine R.iteF' nemp ?_
          walk_at "rd"
          refine R.dgetx g1 hval ?_
          walk_at "rd"
          rw [← s1] at gk
          rcases c with ⟨c0, c1, c2⟩ | ⟨c0, c1, c2⟩
          · refine R.iteDT c0 ?_
            walk_at "rd"
            refine R.dgetx g1 hval ?_
            walk_at "rd"
            intro t ht
            walk_at "rd"
            exact fin c1 c2 t ht
          · refine R.iteDF c0 ?_
            walk_at "rd"
            exact ⟨_, _, rfl, zs, g1, g2, g3, sm, by rw [sucF c1]; exact gk, by omega⟩
      · rintro σ H1 ⟨v, w, rfl, zs, g1, g2, g3, sm, gk, gl⟩
        rw [List.length_map] at gk
        walk_at "rd"
        intro p hp
        refine q p _ _ (same_new sm (sm.free hp)) (sm.free hp) upd_same ?_
        rw [← st_end hg.pos hg.one ydesc ymem]
        exact (KVs.keep (pr_rev gk) (.new hp))

theorem ok_Lacquer_slack {f : Addr} {fd : FuncData} (F : L2.Fun K "slack" "Lacquer.slack" s_Lacquer_slack f fd)
    {C_Lacquer : Addr} (T_Lacquer : S_Lacquer K mg C_Lacquer) :
    FnOk P w K mg base CX0 1 f fd ["self"] (sp_Lacquer_slack C_Lacquer) := by
  refine F.ok sc_Lacquer_slack (fun vs H Q E h => ?_) (fun cdv A outer s H vs Q E hr h => ?_)
  · obtain ⟨p, a, b, rfl, _⟩ := h
    rfl
  · obtain ⟨p, a, b, rfl, ⟨dx, hp⟩, q⟩ := h
    refine ⟨_, (pss_one (ps_ret (pe_op op_sub (pe_fld (pv 0) rfl) (pe_fld (pv 0) rfl)))), ?_⟩
    rw [show L2.start ["self"] [.ref p] = [some (.ref p)] from rfl]
    walk_at "rd"
    exact q

theorem ok_f_ceil_div {f : Addr} {fd : FuncData} (F : L2.Fun K "ceil_div" "ceil_div" s_f_ceil_div f fd)
     :
    FnOk P w K mg base CX0 1 f fd ["x", "y"] sp_f_ceil_div := by
  refine F.ok sc_f_ceil_div (fun vs H Q E h => ?_) (fun cdv A outer s H vs Q E hr h => ?_)
  · obtain ⟨x, y, rfl, _⟩ := h
    rfl
  · obtain ⟨x, y, rfl, hy, hy2, q⟩ := h
    refine ⟨_, (pss_one (ps_ret (pe_un un_neg (pe_op op_fdiv (pe_un un_neg (pv 0)) (pv 1))))), ?_⟩
    rw [show L2.start ["x", "y"] [.int x, .int y] = [some (.int x), some (.int y)] from rfl]
    walk_at "rd"
    exact q

theorem ok_Lacquer_spans {f : Addr} {fd : FuncData} (F : L2.Fun K "spans" "Lacquer.spans" s_Lacquer_spans f fd)
    {C_Lacquer : Addr} (T_Lacquer : S_Lacquer K mg C_Lacquer)
    {f_f_ceil_div : Addr} {fd_f_ceil_div : FuncData} (G_f_ceil_div : FnOk P w K mg base CX0 1 f_f_ceil_div fd_f_ceil_div ["x", "y"] sp_f_ceil_div) (m_f_ceil_div : mg "ceil_div" = some (.ref f_f_ceil_div)) (k_f_ceil_div : PySem.W.keepIn K (.ref f_f_ceil_div) = true) (b_f_ceil_div : Binds K fd_f_ceil_div ["x", "y"] [])
    {f_Lacquer_slack : Addr} {fd_Lacquer_slack : FuncData} (G_Lacquer_slack : FnOk P w K mg base CX0 1 f_Lacquer_slack fd_Lacquer_slack ["self"] (sp_Lacquer_slack C_Lacquer)) (b_Lacquer_slack : Binds K fd_Lacquer_slack ["self"] []) {p_Lacquer_slack : Addr} (P_Lacquer_slack : PropOf K C_Lacquer "slack" p_Lacquer_slack f_Lacquer_slack) :
    FnOk P w K mg base CX0 3 f fd ["self", "w"] (sp_Lacquer_spans C_Lacquer) := by
  refine F.ok sc_Lacquer_spans (fun vs H Q E h => ?_) (fun cdv A outer s H vs Q E hr h => ?_)
  · obtain ⟨p, a, b, w, rfl, _⟩ := h
    rfl
  · obtain ⟨p, a, b, w, rfl, ⟨dx, hp⟩, h1, h2, h3, hw, q⟩ := h
    refine ⟨_, (pss_cons (ps_if (pt_cmpR op_lt (pv 1) pe_int (nomark _))
      (pss_one ps_never)
      pss_nil)
      (pss_one (ps_ret (pe_call G_f_ceil_div (hr.mono (by decide)) (by rfl) m_f_ceil_div k_f_ceil_div b_f_ceil_div .nil pass0 (pa_cons (pv 1) (pa_cons (pe_prop (pv 0) T_Lacquer.cl P_Lacquer_slack G_Lacquer_slack (hr.mono (by decide)) b_Lacquer_slack .nil pass0 rfl) pa_nil)))))), ?_⟩
    rw [show L2.start ["self", "w"] [.ref p, .int w] = [some (.ref p), some (.int w)] from rfl]
    walk_at "rd"
    refine ⟨p, a, b, rfl, ⟨dx, hp⟩, ?_⟩
    walk_at "rd"
    refine ⟨w, b - a, rfl, by omega, by omega, ?_⟩
    walk_at "rd"
    exact q

theorem ok_Lacquer_lead {f : Addr} {fd : FuncData} (F : L2.Fun K "lead" "Lacquer.lead" s_Lacquer_lead f fd)
    {C_Lacquer : Addr} (T_Lacquer : S_Lacquer K mg C_Lacquer)
    {f_Lacquer_spans : Addr} {fd_Lacquer_spans : FuncData} (G_Lacquer_spans : FnOk P w K mg base CX0 3 f_Lacquer_spans fd_Lacquer_spans ["self", "w"] (sp_Lacquer_spans C_Lacquer)) (b_Lacquer_spans : Binds K fd_Lacquer_spans ["self", "w"] []) (M_Lacquer_spans : Meth K C_Lacquer "spans" f_Lacquer_spans) :
    FnOk P w K mg base CX0 4 f fd ["self", "w"] (sp_Lacquer_lead C_Lacquer) := by
  refine F.ok sc_Lacquer_lead (fun vs H Q E h => ?_) (fun cdv A outer s H vs Q E hr h => ?_)
  · obtain ⟨p, a, b, w, rfl, _⟩ := h
    rfl
  · obtain ⟨p, a, b, w, rfl, ⟨dx, hp⟩, h1, h2, h3, hw, hw2, q⟩ := h
    refine ⟨_, (pss_cons (ps_if (pt_cmpR op_lt (pv 1) pe_int (nomark _))
      (pss_one ps_never)
      pss_nil)
      (pss_one (ps_ret (pe_op op_mul (pe_op op_sub (pe_meth (pv 0) T_Lacquer.cl M_Lacquer_spans G_Lacquer_spans (hr.mono (by decide)) b_Lacquer_spans .nil pass0 (pa_cons (pv 1) pa_nil)) pe_int) (pe_fld (pv 0) rfl))))), ?_⟩
    rw [show L2.start ["self", "w"] [.ref p, .int w] = [some (.ref p), some (.int w)] from rfl]
    have z1 := cd_pos (x := w) (y := b - a) (by omega) (by omega)
    have z2 := cd_le (x := w) (y := b - a) (by omega) (by omega)
    walk_at "rd"
    refine ⟨p, a, b, w, rfl, ⟨dx, hp⟩, h1, h2, h3, by omega, ?_⟩
    walk_at "rd"
    exact q

theorem ok_f_is_sound_kind {f : Addr} {fd : FuncData} (F : L2.Fun K "is_sound_kind" "is_sound_kind" s_f_is_sound_kind f fd)
    {C_Lacquer : Addr} (T_Lacquer : S_Lacquer K mg C_Lacquer)
    {f_Lacquer_lead : Addr} {fd_Lacquer_lead : FuncData} (G_Lacquer_lead : FnOk P w K mg base CX0 4 f_Lacquer_lead fd_Lacquer_lead ["self", "w"] (sp_Lacquer_lead C_Lacquer)) (b_Lacquer_lead : Binds K fd_Lacquer_lead ["self", "w"] []) (M_Lacquer_lead : Meth K C_Lacquer "lead" f_Lacquer_lead) :
    FnOk P w K mg base CX0 5 f fd ["lacquer", "w", "g"] (sp_f_is_sound_kind C_Lacquer) := by
  refine F.ok sc_f_is_sound_kind (fun vs H Q E h => ?_) (fun cdv A outer s H vs Q E hr h => ?_)
  · obtain ⟨p, a, b, w, g, rfl, _⟩ := h
    rfl
  · obtain ⟨p, a, b, w, g, rfl, ⟨dx, hp⟩, h1, h2, h3, h4, h5, q⟩ := h
    refine ⟨_, (pss_one (ps_ret (pe_and (pe_cmpR op_lt (pv 1) (pe_fld (pv 0) rfl) (nomark _)) (pe_one (pe_cmpR op_gt (pv 2) (pe_meth (pv 0) T_Lacquer.cl M_Lacquer_lead G_Lacquer_lead (hr.mono (by decide)) b_Lacquer_lead .nil pass0 (pa_cons (pv 1) pa_nil)) (nomark _)))))), ?_⟩
    rw [show L2.start ["lacquer", "w", "g"] [.ref p, .int w, .int g] = [some (.ref p), some (.int w), some (.int g)] from rfl]
    walk_at "rd"
    refine R.iteD (fun h => ?_) (fun h => ?_)
    · walk_at "rd"
      refine ⟨p, a, b, w, rfl, ⟨dx, hp⟩, h1, h2, h3, h4, h5, ?_⟩
      walk_at "rd"
      rw [show sndB a b (w, g) = decide (ldd a b w < g) by simp [sndB, h]] at q
      exact q
    · walk_at "rd"
      rw [show sndB a b (w, g) = false by simp [sndB, h]] at q
      exact q

theorem ok_Climate_iter {f : Addr} {fd : FuncData} (F : L2.Fun K "__iter__" "Climate.__iter__" s_Climate_iter f fd)
    {C_Climate : Addr} (T_Climate : S_Climate K mg C_Climate)
    (z_iter : mg "iter" = none) :
    OW.FnS P w K mg base 1 f fd ["self"] (sp_Climate_iter K C_Climate) := by
  refine OW.okS F sc_Climate_iter (fun _ vs H Q E h => ?_) (fun cdv A outer s H vs Q E hr h => ?_)
  · obtain ⟨p, dx, t, zs, rfl, _⟩ := h
    rfl
  · obtain ⟨p, dx, t, zs, rfl, hp, hT, q⟩ := h
    refine ⟨_, (pss_one (ps_ret (pe_callB OW.c_iterT (by rfl) z_iter (by decide +kernel) (pa_cons (pe_fld (pv 0) rfl) pa_nil)))), ?_⟩
    rw [show L2.start ["self"] [.ref p] = [some (.ref p)] from rfl]
    walk_at "rd"
    exact q

theorem ok_f_fault {f : Addr} {fd : FuncData} (F : L2.Fun K "_fault" "_fault" s_f_fault f fd)
    {C_Lacquer : Addr} (T_Lacquer : S_Lacquer K mg C_Lacquer)
    (g_CLOSE : ∃ u, mg "CLOSE" = some u ∧ RelV (.str "close") u)
    (g_LONG : ∃ u, mg "LONG" = some u ∧ RelV (.str "long") u) :
    FnOk P w K mg base CX0 1 f fd ["lacquer", "w"] (sp_f_fault C_Lacquer) := by
  refine F.ok sc_f_fault (fun vs H Q E h => ?_) (fun cdv A outer s H vs Q E hr h => ?_)
  · obtain ⟨p, a, b, w, rfl, _⟩ := h
    rfl
  · obtain ⟨p, a, b, w, rfl, ⟨dx, hp⟩, q⟩ := h
    refine ⟨_, (pss_cons (ps_if (pt_cmpR op_ge (pv 1) (pe_fld (pv 0) rfl) (nomark _))
      (pss_one (ps_ret (C8.pe_gc (by rfl) g_LONG)))
      pss_nil)
      (pss_one (ps_ret (C8.pe_gc (by rfl) g_CLOSE)))), ?_⟩
    rw [show L2.start ["lacquer", "w"] [.ref p, .int w] = [some (.ref p), some (.int w)] from rfl]
    walk_at "rd"
    refine R.iteD (fun h => ?_) (fun h => ?_)
    · walk_at "rd"
      rw [show wordB b w = "long" from if_pos h] at q
      exact q
    · walk_at "rd"
      rw [show wordB b w = "close" from if_neg h] at q
      exact q

theorem ok_f_bad_kinds {f : Addr} {fd : FuncData} (F : L2.Fun K "bad_kinds" "bad_kinds" s_f_bad_kinds f fd)
    {C_Climate : Addr} (T_Climate : S_Climate K mg C_Climate)
    {C_Lacquer : Addr} (T_Lacquer : S_Lacquer K mg C_Lacquer)
    {f_f_fault : Addr} {fd_f_fault : FuncData} (G_f_fault : FnOk P w K mg base CX0 1 f_f_fault fd_f_fault ["lacquer", "w"] (sp_f_fault C_Lacquer)) (m_f_fault : mg "_fault" = some (.ref f_f_fault)) (k_f_fault : PySem.W.keepIn K (.ref f_f_fault) = true) (b_f_fault : Binds K fd_f_fault ["lacquer", "w"] [])
    {f_f_is_sound_kind : Addr} {fd_f_is_sound_kind : FuncData} (G_f_is_sound_kind : FnOk P w K mg base CX0 5 f_f_is_sound_kind fd_f_is_sound_kind ["lacquer", "w", "g"] (sp_f_is_sound_kind C_Lacquer)) (m_f_is_sound_kind : mg "is_sound_kind" = some (.ref f_f_is_sound_kind)) (k_f_is_sound_kind : PySem.W.keepIn K (.ref f_f_is_sound_kind) = true) (b_f_is_sound_kind : Binds K fd_f_is_sound_kind ["lacquer", "w", "g"] [])
    {f_Climate_iter : Addr} {fd_Climate_iter : FuncData} (G_Climate_iter : OW.FnS P w K mg base 1 f_Climate_iter fd_Climate_iter ["self"] (sp_Climate_iter K C_Climate)) (b_Climate_iter : Binds K fd_Climate_iter ["self"] []) (M_Climate_iter : Meth K C_Climate "__iter__" f_Climate_iter) :
    FnOk P w K mg base CX0 6 f fd ["lacquer", "climate"] (sp_f_bad_kinds C_Lacquer C_Climate) := by
  refine F.ok sc_f_bad_kinds (fun vs H Q E h => ?_) (fun cdv A outer s H vs Q E hr h => ?_)
  · obtain ⟨p, c, a, b, ks, rfl, _⟩ := h
    rfl
  · obtain ⟨p, c, a, b, ks, rfl, hp, h1, h2, h3, ⟨dc, t, zs, hc, ht, hk⟩, hg, hn, q⟩ := h
    refine ⟨_, (pss_one (ps_ret (pe_lc (own := [("w", 2), ("g", 3)]) (by rfl) sc_f_bad_kinds.nd (OW.pi_own (pv 1) M_Climate_iter G_Climate_iter (hr.mono (by decide)) b_Climate_iter) (blkOk_by (N := N_f_bad_kinds) (sc := defScope s_f_bad_kinds) (by decide +kernel)) (fun _ _ _ _ _ => (OW.pg_tupK (K := K) (n := 2) rfl rfl (pgs_cons (pg_name (i := 2) sc_f_bad_kinds.nd rfl (by first | exact Or.inl rfl | exact Or.inr rfl)) (pgs_cons (pg_name (i := 3) sc_f_bad_kinds.nd rfl (by first | exact Or.inl rfl | exact Or.inr rfl)) pgs_nil)))) (fun _ _ _ _ _ => pts_one (pt_not (pt_val (pe_call G_f_is_sound_kind (hr.mono (by decide)) (by rfl) m_f_is_sound_kind k_f_is_sound_kind b_f_is_sound_kind .nil pass0 (pa_cons (pv 0) (pa_cons (pv 2) (pa_cons (pv 3) pa_nil))))))) (fun _ _ _ _ _ => (pe_tup (pa_cons (pv 2) (pa_cons (pv 3) (pa_cons (pe_call G_f_fault (hr.mono (by decide)) (by rfl) m_f_fault k_f_fault b_f_fault .nil pass0 (pa_cons (pv 0) (pa_cons (pv 2) pa_nil))) pa_nil)))))))), ?_⟩
    rw [show L2.start ["lacquer", "climate", "w", "g"] [.ref p, .ref c] = [some (.ref p), some (.ref c), none, none] from rfl]
    walk_at "rd"
    refine clim_walk hc ht ?_
    intro D hD
    refine lc_tup (xs := zs) (fun i H' => ∃ acc, H' D = some (.lst acc) ∧ Same H H' ∧ Trs H' acc (badL a b (ks.take i)) ∧ acc.length ≤ i) ⟨[], upd_same, same_upd hD, .nil, Nat.le_refl _⟩ (fun i H' _ ⟨_, _, sm, _⟩ => SqT.of (sm _ _ ht)) ?_ ?_
    · rintro i x H1 hx ⟨acc, g1, sm, tr, gl⟩
      obtain ⟨k, tk, e1, rfl, e2⟩ := hk.at hx
      obtain ⟨k1, k2, k3, k4⟩ := hg k (List.mem_of_getElem? e1)
      have il := (List.getElem?_eq_some_iff.mp e1).1
      have e3 := sm _ _ e2
      have snoc := badL_snoc a b (ks.take i) k
      rw [take_snoc e1] at snoc
      walk_at "rd"
      refine ⟨p, a, b, _, _, rfl, hp.same sm, h1, h2, h3, k1, by omega, ?_⟩
      walk_at "rd"
      refine R.iteN (fun h => ?_) (fun h => ?_)
      · rw [if_neg (by rw [h]; simp)] at snoc
        walk_at "rd"
        refine ⟨p, a, b, _, rfl, hp.same sm, ?_⟩
        walk_at "rd"
        intro tn htn
        refine ⟨acc, by rw [upd_ne (ne_of_none g1 htn)]; exact g1, Nat.lt_of_le_of_lt (m := 300) (by omega) (by decide), acc ++ [.ref tn], upd_same, fun bb o e => ?_, ?_, by simp; omega⟩
        · rw [upd_ne (ne_of_none e hD), upd_ne (ne_of_none (sm _ _ e) htn)]
          exact sm _ _ e
        · rw [snoc]
          have g2 : upd H1 tn (.tup [.int k.1, .int k.2, .str (wordB b k.1)]) D = some (.lst acc) := by rw [upd_ne (ne_of_none g1 htn)]; exact g1
          refine tr.snoc (t := tn) ((TK.new htn).trans (.lst g2)) ?_
          rw [upd_ne (ne_of_none g1 htn).symm]
          exact upd_same
      · rw [if_pos (by rw [h]), List.append_nil] at snoc
        exact ⟨acc, g1, sm, by rw [snoc]; exact tr, by omega⟩
    · rintro H1 ⟨acc, g1, sm, tr, gl⟩
      rw [hk.len, List.take_length] at tr
      exact q D acc H1 sm hD g1 tr

theorem ok_f_is_sound {f : Addr} {fd : FuncData} (F : L2.Fun K "is_sound" "is_sound" s_f_is_sound f fd)
    {C_Climate : Addr} (T_Climate : S_Climate K mg C_Climate)
    {C_Lacquer : Addr} (T_Lacquer : S_Lacquer K mg C_Lacquer)
    {f_f_bad_kinds : Addr} {fd_f_bad_kinds : FuncData} (G_f_bad_kinds : FnOk P w K mg base CX0 6 f_f_bad_kinds fd_f_bad_kinds ["lacquer", "climate"] (sp_f_bad_kinds C_Lacquer C_Climate)) (m_f_bad_kinds : mg "bad_kinds" = some (.ref f_f_bad_kinds)) (k_f_bad_kinds : PySem.W.keepIn K (.ref f_f_bad_kinds) = true) (b_f_bad_kinds : Binds K fd_f_bad_kinds ["lacquer", "climate"] []) :
    FnOk P w K mg base CX0 7 f fd ["lacquer", "climate"] (sp_f_is_sound C_Lacquer C_Climate) := by
  refine F.ok sc_f_is_sound (fun vs H Q E h => ?_) (fun cdv A outer s H vs Q E hr h => ?_)
  · obtain ⟨p, c, a, b, ks, rfl, _⟩ := h
    rfl
  · obtain ⟨p, c, a, b, ks, rfl, hp, h1, h2, h3, hc, hg, hn, q⟩ := h
    refine ⟨_, (pss_one (ps_ret (pe_notT (pe_call G_f_bad_kinds (hr.mono (by decide)) (by rfl) m_f_bad_kinds k_f_bad_kinds b_f_bad_kinds .nil pass0 (pa_cons (pv 0) (pa_cons (pv 1) pa_nil)))))), ?_⟩
    rw [show L2.start ["lacquer", "climate"] [.ref p, .ref c] = [some (.ref p), some (.ref c)] from rfl]
    walk_at "rd"
    refine ⟨p, c, a, b, ks, rfl, hp, h1, h2, h3, hc, hg, hn, fun r zs H1 sm hr hr1 tr => ?_⟩
    walk_at "rd"
    rw [Bool.not_not, pr_empty tr]
    exact q H1 sm

theorem ok_f_kind_booking {f : Addr} {fd : FuncData} (F : L2.Fun K "kind_booking" "kind_booking" s_f_kind_booking f fd)
    {C_BadKind : Addr} (T_BadKind : S_BadKind K mg C_BadKind)
    {C_Lacquer : Addr} (T_Lacquer : S_Lacquer K mg C_Lacquer)
    (z_max : mg "max" = none)
    (z_min : mg "min" = none)
    {f_f_check_kind : Addr} {fd_f_check_kind : FuncData} (G_f_check_kind : FnOk P w K mg base (L2.CX P w) 1 f_f_check_kind fd_f_check_kind ["w", "g"] (sp_f_check_kind C_BadKind)) (m_f_check_kind : mg "check_kind" = some (.ref f_f_check_kind)) (k_f_check_kind : PySem.W.keepIn K (.ref f_f_check_kind) = true) (b_f_check_kind : Binds K fd_f_check_kind ["w", "g"] [])
    {f_f_is_sound_kind : Addr} {fd_f_is_sound_kind : FuncData} (G_f_is_sound_kind : FnOk P w K mg base CX0 5 f_f_is_sound_kind fd_f_is_sound_kind ["lacquer", "w", "g"] (sp_f_is_sound_kind C_Lacquer)) (m_f_is_sound_kind : mg "is_sound_kind" = some (.ref f_f_is_sound_kind)) (k_f_is_sound_kind : PySem.W.keepIn K (.ref f_f_is_sound_kind) = true) (b_f_is_sound_kind : Binds K fd_f_is_sound_kind ["lacquer", "w", "g"] [])
    {f_Lacquer_slack : Addr} {fd_Lacquer_slack : FuncData} (G_Lacquer_slack : FnOk P w K mg base CX0 1 f_Lacquer_slack fd_Lacquer_slack ["self"] (sp_Lacquer_slack C_Lacquer)) (b_Lacquer_slack : Binds K fd_Lacquer_slack ["self"] []) {p_Lacquer_slack : Addr} (P_Lacquer_slack : PropOf K C_Lacquer "slack" p_Lacquer_slack f_Lacquer_slack)
    {f_Lacquer_spans : Addr} {fd_Lacquer_spans : FuncData} (G_Lacquer_spans : FnOk P w K mg base CX0 3 f_Lacquer_spans fd_Lacquer_spans ["self", "w"] (sp_Lacquer_spans C_Lacquer)) (b_Lacquer_spans : Binds K fd_Lacquer_spans ["self", "w"] []) (M_Lacquer_spans : Meth K C_Lacquer "spans" f_Lacquer_spans) :
    FnOk P w K mg base (L2.CX P w) 6 f fd ["lacquer", "w", "g"] (sp_f_kind_booking K C_Lacquer C_BadKind) := by
  refine F.okX sc_f_kind_booking (fun vs H Q E h => ?_) (fun cdv A outer s H vs Q E hr h => ?_)
  · obtain ⟨p, a, b, w, g, rfl, _⟩ := h
    rfl
  · obtain ⟨p, a, b, w, g, rfl, hp0, h1, h2, h3, sw, sg, k0, k1⟩ := h
    refine ⟨_, (pss_cons (ps_expr (pe_callS G_f_check_kind (hr.mono (by decide)) (by rfl) m_f_check_kind k_f_check_kind b_f_check_kind (fun σ => passAt (takes_of rfl rfl rfl rfl) σ) (pa_cons (pv 1) (pa_cons (pv 2) pa_nil))))
      (pss_cons (ps_if (pt_not (pt_val (pe_call G_f_is_sound_kind (hr.mono (by decide)) (by rfl) m_f_is_sound_kind k_f_is_sound_kind b_f_is_sound_kind .nil pass0 (pa_cons (pv 0) (pa_cons (pv 1) (pa_cons (pv 2) pa_nil))))))
      (pss_one (ps_ret pe_non))
      pss_nil)
      (pss_cons (ps_set (i := 3) sc_f_kind_booking.nd rfl (by first | exact Or.inl rfl | exact Or.inr rfl) (pe_lst pa_nil))
      (pss_cons (ps_if (pt_cmpR op_le (pv 1) (pe_prop (pv 0) T_Lacquer.cl P_Lacquer_slack G_Lacquer_slack (hr.mono (by decide)) b_Lacquer_slack .nil pass0 rfl) (nomark _))
      (pss_one (ps_expr (pe_bm PySem.F.plainAttrs_list PySem.F.slot_list_append PySem.F.type_list_append mt_append (pv 3) (pa_cons (pe_op op_add (pe_fld (pv 0) rfl) (pv 1)) pa_nil))))
      pss_nil)
      (pss_cons (ps_if (pt_cmpR op_gt (pv 2) (pe_fld (pv 0) rfl) (nomark _))
      (pss_one (ps_expr (pe_bm PySem.F.plainAttrs_list PySem.F.slot_list_append PySem.F.type_list_append mt_append (pv 3) (pa_cons (pe_callB (OW.c_max2 rfl) (by rfl) z_max (by decide +kernel) (pa_cons (pe_op op_add (pv 1) pe_int) (pa_cons (pe_op op_mul (pe_callB (OW.c_max2 rfl) (by rfl) z_max (by decide +kernel) (pa_cons pe_int (pa_cons (pe_meth (pv 0) T_Lacquer.cl M_Lacquer_spans G_Lacquer_spans (hr.mono (by decide)) b_Lacquer_spans .nil pass0 (pa_cons (pv 1) pa_nil)) pa_nil))) (pe_fld (pv 0) rfl)) pa_nil))) pa_nil))))
      pss_nil)
      (pss_one (ps_ret (pe_callB (cr_min rfl) (by rfl) z_min (by decide +kernel) (pa_cons (pv 3) pa_nil))))))))), ?_⟩
    rw [show L2.start ["lacquer", "w", "g", "counting"] [.ref p, .int w, .int g] = [some (.ref p), some (.int w), some (.int g), none] from rfl]
    obtain ⟨dx, hp⟩ := id hp0
    walk_at "rd"
    refine ⟨w, g, rfl, sw, sg, k0, fun kk => ?_⟩
    walk_at "rd"
    refine ⟨p, a, b, w, g, rfl, hp0, h1, h2, h3, kk.1, by omega, ?_⟩
    walk_at "rd"
    refine R.iteN (fun c0 => ?_) (fun c0 => ?_)
    · walk_at "rd"
      have z := k1 kk H (Same.refl _)
      rw [if_neg (by rw [c0]; decide)] at z
      exact z
    have s := sndB_iff.mp c0
    have zz := fun H' s' => k1 kk H' s'
    rw [if_pos c0] at zz
    walk_at "rd"
    intro l hl
    have n1 := same_upd (o := .lst []) hl
    have hp1 := n1 _ _ hp
    have q1 := cd_pos (x := w) (y := b - a) (by omega) (by omega)
    have q2 := cd_le (x := w) (y := b - a) (by omega) (by omega)
    walk_at "rd"
    refine ⟨p, a, b, rfl, ⟨dx, hp1⟩, ?_⟩
    walk_at "rd"
    refine R.iteD (fun c1 => ?_) (fun c1 => ?_)
    · walk_at "rd"
      have hpl : upd (upd H l (HO.lst [])) l (HO.lst ([] ++ [V.int (a + w)])) p = some (HO.ins C_Lacquer dx [("a", .int a), ("b", .int b)]) := by
        rw [upd_upd, upd_ne (ne_of_none hp hl)]
        exact hp
      have hll : upd (upd H l (HO.lst [])) l (HO.lst ([] ++ [V.int (a + w)])) l = some (HO.lst [.int (a + w)]) := upd_same
      walk_at "rd"
      refine R.iteD (fun c2 => ?_) (fun c2 => ?_)
      · walk_at "rd"
        refine ⟨p, a, b, w, rfl, ⟨dx, hpl⟩, h1, h2, h3, by omega, ?_⟩
        walk_at "rd"
        rw [max_py, max_py]
        refine R.app hll (Nat.lt_of_le_of_lt (m := 300) (by show 1 ≤ 300; decide) (by decide)) ?_
        rw [upd_upd, upd_upd]
        walk_at "rd"
        refine ⟨l, [a + w, max (w + 1) (max 2 (cd w (b - a)) * a)], rfl, SqL.of upd_same, Nat.succ_pos _, fun m m1 m2 => ?_⟩
        have e : m = bkN a b (w, g) := by
          unfold bkN bkA bkC
          rw [if_pos c1, if_pos c2]
          show m = min (a + w) (max (w + 1) (max 2 (cd w (b - a)) * a))
          have t1 := m2 _ List.mem_cons_self
          have t2 := m2 _ (List.mem_cons_of_mem _ List.mem_cons_self)
          rcases List.mem_cons.mp m1 with z | z
          · omega
          · (rcases List.mem_cons.mp z with z | z)
            · omega
            · simp at z
        rw [e]
        exact zz _ (same_upd hl)
      · walk_at "rd"
        refine ⟨l, [a + w], rfl, SqL.of upd_same, Nat.succ_pos _, fun m m1 _ => ?_⟩
        have e : m = bkN a b (w, g) := by
          unfold bkN bkA
          rw [if_pos c1, if_neg c2]
          simpa using m1
        rw [e, upd_upd]
        exact zz _ (same_upd hl)
    · walk_at "rd"
      refine R.iteD (fun c2 => ?_) (fun c2 => ?_)
      · walk_at "rd"
        refine ⟨p, a, b, w, rfl, ⟨dx, hp1⟩, h1, h2, h3, by omega, ?_⟩
        walk_at "rd"
        rw [max_py]
        walk_at "rd"
        rw [max_py, upd_upd]
        refine ⟨l, [max (w + 1) (max 2 (cd w (b - a)) * a)], rfl, SqL.of upd_same, Nat.succ_pos _, fun m m1 _ => ?_⟩
        have e : m = bkN a b (w, g) := by
          unfold bkN bkC
          rw [if_neg c1]
          simpa using m1
        rw [e]
        exact zz _ (same_upd hl)
      · exfalso
        have := lead_more (k := (w, g)) h1 h2 (by show b - a < w; omega)
        have s2 : ldd a b w < g := s.2
        have this' : a ≤ ldd a b w := this
        omega

theorem ok_f_booking_needed {f : Addr} {fd : FuncData} (F : L2.Fun K "booking_needed" "booking_needed" s_f_booking_needed f fd)
    {C_BadKind : Addr} (T_BadKind : S_BadKind K mg C_BadKind)
    {C_Climate : Addr} (T_Climate : S_Climate K mg C_Climate)
    {C_Lacquer : Addr} (T_Lacquer : S_Lacquer K mg C_Lacquer)
    (z_max : mg "max" = none)
    {f_f_is_sound : Addr} {fd_f_is_sound : FuncData} (G_f_is_sound : FnOk P w K mg base CX0 7 f_f_is_sound fd_f_is_sound ["lacquer", "climate"] (sp_f_is_sound C_Lacquer C_Climate)) (m_f_is_sound : mg "is_sound" = some (.ref f_f_is_sound)) (k_f_is_sound : PySem.W.keepIn K (.ref f_f_is_sound) = true) (b_f_is_sound : Binds K fd_f_is_sound ["lacquer", "climate"] [])
    {f_f_kind_booking : Addr} {fd_f_kind_booking : FuncData} (G_f_kind_booking : FnOk P w K mg base (L2.CX P w) 6 f_f_kind_booking fd_f_kind_booking ["lacquer", "w", "g"] (sp_f_kind_booking K C_Lacquer C_BadKind)) (m_f_kind_booking : mg "kind_booking" = some (.ref f_f_kind_booking)) (k_f_kind_booking : PySem.W.keepIn K (.ref f_f_kind_booking) = true) (b_f_kind_booking : Binds K fd_f_kind_booking ["lacquer", "w", "g"] [])
    {f_Climate_iter : Addr} {fd_Climate_iter : FuncData} (G_Climate_iter : OW.FnS P w K mg base 1 f_Climate_iter fd_Climate_iter ["self"] (sp_Climate_iter K C_Climate)) (b_Climate_iter : Binds K fd_Climate_iter ["self"] []) (M_Climate_iter : Meth K C_Climate "__iter__" f_Climate_iter) :
    FnOk P w K mg base CX0 8 f fd ["lacquer", "climate"] (sp_f_booking_needed K C_Lacquer C_Climate) := by
  refine F.ok sc_f_booking_needed (fun vs H Q E h => ?_) (fun cdv A outer s H vs Q E hr h => ?_)
  · obtain ⟨p, c, a, b, ks, rfl, _⟩ := h
    rfl
  · obtain ⟨p, c, a, b, ks, rfl, hp, h1, h2, h3, hC, hg, hn, k0, k1⟩ := h
    refine ⟨_, (pss_cons (ps_if (pt_not (pt_val (pe_call G_f_is_sound (hr.mono (by decide)) (by rfl) m_f_is_sound k_f_is_sound b_f_is_sound .nil pass0 (pa_cons (pv 0) (pa_cons (pv 1) pa_nil)))))
      (pss_one (ps_ret pe_non))
      pss_nil)
      (pss_one (ps_ret (pe_callB (cr_max rfl) (by rfl) z_max (by decide +kernel) (pa_cons (pe_op op_cat (pe_lst (pa_cons (pe_fld (pv 0) rfl) pa_nil)) (pe_lc (own := [("w", 2), ("g", 3)]) (by rfl) sc_f_booking_needed.nd (OW.pi_own (pv 1) M_Climate_iter G_Climate_iter (hr.mono (by decide)) b_Climate_iter) (blkOk_by (N := N_f_booking_needed) (sc := defScope s_f_booking_needed) (by decide +kernel)) (fun _ _ _ _ _ => (OW.pg_tupK (K := K) (n := 2) rfl rfl (pgs_cons (pg_name (i := 2) sc_f_booking_needed.nd rfl (by first | exact Or.inl rfl | exact Or.inr rfl)) (pgs_cons (pg_name (i := 3) sc_f_booking_needed.nd rfl (by first | exact Or.inl rfl | exact Or.inr rfl)) pgs_nil)))) (fun _ _ _ _ _ => pts_nil) (fun _ _ _ _ _ => (pe_call G_f_kind_booking (hr.mono (by decide)) (by rfl) m_f_kind_booking k_f_kind_booking b_f_kind_booking .nil passL (pa_cons (pv 0) (pa_cons (pv 2) (pa_cons (pv 3) pa_nil))))))) pa_nil))))), ?_⟩
    rw [show L2.start ["lacquer", "climate", "w", "g"] [.ref p, .ref c] = [some (.ref p), some (.ref c), none, none] from rfl]
    obtain ⟨dc, t, zs, hc, ht, hk⟩ := id hC
    walk_at "rd"
    refine ⟨p, c, a, b, ks, rfl, hp, h1, h2, h3, hC, hg, hn, fun H1 s1 => ?_⟩
    walk_at "rd"
    refine R.iteN (fun h => ?_) (fun h => ?_)
    · walk_at "rd"
      exact k0 h H1 s1
    · obtain ⟨dl, hpl⟩ := hp.same s1
      have hc1 := s1 _ _ hc
      have ht1 := s1 _ _ ht
      have hk1 := hk.keep (.same s1)
      have ss := bad_empty.mp h
      walk_at "rd"
      intro la hla
      have n2 := same_upd (o := .lst [.int a]) hla
      have hc2 := n2 _ _ hc1
      have ht2 := n2 _ _ ht1
      have hk2 := hk1.keep (.same n2)
      walk_at "rd"
      refine clim_walk hc2 ht2 ?_
      intro D hD
      refine lc_tup (xs := zs) (fun i H' => H' D = some (.lst ((bksL a b (ks.take i)).map V.int)) ∧ Same (upd H1 la (.lst [.int a])) H') ⟨upd_same, same_upd hD⟩ (fun i H' _ ⟨_, sm⟩ => SqT.of (sm _ _ ht2)) ?_ ?_
      · rintro i x G hx ⟨g1, sm⟩
        obtain ⟨k, tk, e1, rfl, e2⟩ := hk2.at hx
        have g0 := hg k (List.mem_of_getElem? e1)
        have il := (List.getElem?_eq_some_iff.mp e1).1
        have e3 := sm _ _ e2
        walk_at "rd"
        refine ⟨p, a, b, _, _, rfl, hp.same ((s1.trans n2).trans sm), h1, h2, h3, ⟨by omega, by omega⟩, ⟨by omega, by omega⟩, fun h => absurd g0 h, fun _ G2 s2 => ?_⟩
        rw [if_pos (ss k (List.mem_of_getElem? e1))]
        refine ⟨_, s2 _ _ g1, Nat.lt_of_le_of_lt (m := 300) ?_ (by decide), ?_, fun bb o e => ?_⟩
        · unfold bksL
          rw [List.length_map, List.length_map, List.length_take]
          omega
        · rw [← take_snoc e1]
          unfold bksL
          rw [List.map_append, List.map_append]
          exact upd_same
        · rw [upd_ne (ne_of_none e hD)]
          exact s2 _ _ (sm _ _ e)
      · rintro G ⟨g1, sm⟩
        rw [hk2.len, List.take_length] at g1
        have z1 := sm la _ upd_same
        walk_at "rd"
        have bl : (bksL a b ks).length ≤ 16 := by unfold bksL; rw [List.length_map]; exact hn
        refine ⟨la, D, _, _, rfl, rfl, z1, g1, ?_, fun pz hpz => ?_⟩
        · rw [List.length_map]
          exact Nat.le_trans (m := 300) (by show 1 + _ ≤ 300; omega) (by decide)
        walk_at "rd"
        refine ⟨pz, a :: bksL a b ks, rfl, SqL.of upd_same, Nat.succ_pos _, fun m m1 m2 => ?_⟩
        exact k1 h m _ (((s1.trans n2).trans sm).trans (same_upd hpz)) m1 m2

theorem ok_Lacquer_init {f : Addr} {fd : FuncData} (F : L2.Fun K "__init__" "Lacquer.__init__" s_Lacquer_init f fd)
    {C_Lacquer : Addr} (T_Lacquer : S_Lacquer K mg C_Lacquer) :
    FnOk P w K mg base CX0 1 f fd ["self", "a", "b"] (sp_Lacquer_init C_Lacquer) := by
  refine F.ok sc_Lacquer_init (fun vs H Q E h => ?_) (fun cdv A outer s H vs Q E hr h => ?_)
  · obtain ⟨x, dx, a, b, rfl, _⟩ := h
    rfl
  · obtain ⟨x, dx, a, b, rfl, hx, h1, h2, h3, q⟩ := h
    refine ⟨_, (pss_cons (ps_if (pt_not (OW.pt_chain3 op_le op_lt op_le pe_int (pv 1) (pv 2) (ClX.pe_cval (C8.pe_gc (v := .ref C_Lacquer) (by rfl) ⟨_, T_Lacquer.mg, rfl⟩))))
      (pss_one ps_never)
      pss_nil)
      (pss_cons (ps_fld (pv 0) (pv 1) rfl)
      (pss_one (ps_fld (pv 0) (pv 2) rfl)))), ?_⟩
    rw [show L2.start ["self", "a", "b"] [.ref x, .int a, .int b] = [some (.ref x), some (.int a), some (.int b)] from rfl]
    walk_at "rd"
    rw [upd_upd]
    exact q

theorem ok_f_check_sight {f : Addr} {fd : FuncData} (F : L2.Fun K "check_sight" "check_sight" s_f_check_sight f fd)
    {C_BadNumber : Addr} (T_BadNumber : S_BadNumber K mg C_BadNumber) :
    FnOk P w K mg base (L2.CX P w) 1 f fd ["sight"] (sp_f_check_sight C_BadNumber) := by
  refine F.okX sc_f_check_sight (fun vs H Q E h => ?_) (fun cdv A outer s H vs Q E hr h => ?_)
  · obtain ⟨v, rfl, _⟩ := h
    rfl
  · obtain ⟨v, rfl, k0, k1⟩ := h
    refine ⟨_, (pss_one (ps_if (pt_cmpR op_lt (pv 0) pe_int (nomark _))
      (pss_one (ps_raise rfl (takes_of rfl rfl rfl rfl) (pmk_own PySem.F.excBase_ValueError T_BadNumber.x T_BadNumber.mg T_BadNumber.kp (raises_own T_BadNumber.b T_BadNumber.t) rfl)))
      pss_nil)), ?_⟩
    rw [show L2.start ["sight"] [.int v] = [some (.int v)] from rfl]
    walk_at "rd"
    refine R.iteD (fun h => k0 h) (fun h => ?_)
    walk_at "rd"
    exact k1 (by omega)

theorem ok_Climate_init {f : Addr} {fd : FuncData} (F : L2.Fun K "__init__" "Climate.__init__" s_Climate_init f fd)
    {C_Climate : Addr} (T_Climate : S_Climate K mg C_Climate)
    (z_tuple : mg "tuple" = none)
    {f_f_check_kinds : Addr} {fd_f_check_kinds : FuncData} (G_f_check_kinds : FnOk P w K mg base CX0 2 f_f_check_kinds fd_f_check_kinds ["kinds"] (sp_f_check_kinds K)) (m_f_check_kinds : mg "check_kinds" = some (.ref f_f_check_kinds)) (k_f_check_kinds : PySem.W.keepIn K (.ref f_f_check_kinds) = true) (b_f_check_kinds : Binds K fd_f_check_kinds ["kinds"] [])
    {f_f_plain_list : Addr} {fd_f_plain_list : FuncData} (G_f_plain_list : FnOk P w K mg base CX0 1 f_f_plain_list fd_f_plain_list ["kinds"] (sp_f_plain_list K)) (m_f_plain_list : mg "plain_list" = some (.ref f_f_plain_list)) (k_f_plain_list : PySem.W.keepIn K (.ref f_f_plain_list) = true) (b_f_plain_list : Binds K fd_f_plain_list ["kinds"] []) :
    FnOk P w K mg base CX0 3 f fd ["self", "kinds"] (sp_Climate_init K C_Climate) := by
  refine F.ok sc_Climate_init (fun vs H Q E h => ?_) (fun cdv A outer s H vs Q E hr h => ?_)
  · obtain ⟨x, dx, l, ys, ks, rfl, _⟩ := h
    rfl
  · obtain ⟨x, dx, l, ys, ks, rfl, hx, hS, hk, hn, hg, q⟩ := h
    refine ⟨_, (pss_cons (ps_expr (pe_call G_f_check_kinds (hr.mono (by decide)) (by rfl) m_f_check_kinds k_f_check_kinds b_f_check_kinds .nil pass0 (pa_cons (pv 1) pa_nil)))
      (pss_one (ps_fld (pv 0) (pe_callTy OW.c_tupL (by rfl) z_tuple (by decide +kernel) (pa_cons (pe_call G_f_plain_list (hr.mono (by decide)) (by rfl) m_f_plain_list k_f_plain_list b_f_plain_list .nil pass0 (pa_cons (pv 1) pa_nil)) pa_nil)) rfl))), ?_⟩
    rw [show L2.start ["self", "kinds"] [.ref x, .ref l] = [some (.ref x), some (.ref l)] from rfl]
    walk_at "rd"
    refine ⟨l, ys, ks, rfl, hS, hk, hn, hg, ?_⟩
    walk_at "rd"
    refine ⟨l, ys, ks, rfl, hS, hk, hn, hg, fun r zs H1 s1 hr hr1 hk1 => ?_⟩
    have hx1 := s1 _ _ hx
    walk_at "rd"
    intro t ht
    have hxt := ne_of_none hx1 ht
    have hx2 : upd H1 t (.tup zs) x = some (.ins C_Climate dx []) := by rw [upd_ne hxt]; exact hx1
    walk_at "rd"
    refine q t zs _ (fun b o n e => ?_) upd_same ?_ ?_
    · rw [upd_ne n, upd_ne (ne_of_none (s1 _ _ e) ht)]
      exact s1 _ _ e
    · rw [upd_ne hxt.symm]
      exact upd_same
    · exact (hk1.keep (.new ht)).keep (.ins hx2)

theorem ok_Climate_eq {f : Addr} {fd : FuncData} (F : L2.Fun K "__eq__" "Climate.__eq__" s_Climate_eq f fd)
    {C_Climate : Addr} (T_Climate : S_Climate K mg C_Climate)
    (z_isinstance : mg "isinstance" = none)
    (kit_Climate_Climate : PySem.W.kitOne K (.ref C_Climate) (.ref C_Climate) = some true) :
    FnOk P w K mg base CX0 1 f fd ["self", "other"] (sp_Climate_eq K C_Climate) := by
  refine F.ok sc_Climate_eq (fun vs H Q E h => ?_) (fun cdv A outer s H vs Q E hr h => ?_)
  · obtain ⟨p, r, ks, ms, rfl, _⟩ := h
    rfl
  · obtain ⟨p, r, ks, ms, rfl, ⟨dx, t, zs, hp, ht, hk⟩, ⟨dy, u, zs', hr0, hu, hk'⟩, q⟩ := h
    refine ⟨_, (pss_one (ps_ret (pe_and (pe_callB call_isi (by rfl) z_isinstance (by decide +kernel) (pa_cons (pv 1) (pa_cons (C8.pe_gc (v := .ref C_Climate) (by rfl) ⟨_, T_Climate.mg, rfl⟩) pa_nil))) (pe_one (pe_cmpR (op_eqD hr.units) (pe_fld (pv 0) rfl) (pe_fld (pv 1) rfl) (nomark _)))))), ?_⟩
    rw [show L2.start ["self", "other"] [.ref p, .ref r] = [some (.ref p), some (.ref r)] from rfl]
    -- kit_Climate_Climate
    walk_at "rd"
    refine R.eqD (.tup (SqT.of ht) hk.data) (.tup (SqT.of hu) hk'.data) (shaped_dP _) (shaped_dP _) ?_
    rw [eqv_dP]
    exact q

theorem ok_Climate_or {f : Addr} {fd : FuncData} (F : L2.Fun K "__or__" "Climate.__or__" s_Climate_or f fd)
    {C_Climate : Addr} (T_Climate : S_Climate K mg C_Climate)
    {f_Climate_init : Addr} {fd_Climate_init : FuncData} (G_Climate_init : FnOk P w K mg base CX0 3 f_Climate_init fd_Climate_init ["self", "kinds"] (sp_Climate_init K C_Climate)) (b_Climate_init : Binds K fd_Climate_init ["self", "kinds"] []) (I_Climate : Mk K C_Climate f_Climate_init) :
    FnOk P w K mg base CX0 5 f fd ["self", "other"] (sp_Climate_or K C_Climate) := by
  refine F.ok sc_Climate_or (fun vs H Q E h => ?_) (fun cdv A outer s H vs Q E hr h => ?_)
  · obtain ⟨p, r, ks, ms, rfl, _⟩ := h
    rfl
  · obtain ⟨p, r, ks, ms, rfl, ⟨dx, t, zs, hp, ht, hk⟩, ⟨dy, u, zs', hr0, hu, hk'⟩, hn, g1, g2, q⟩ := h
    refine ⟨_, (pss_one (ps_ret (pe_make I_Climate G_Climate_init (hr.mono (by decide)) (by rfl) T_Climate.mg b_Climate_init .nil pass0 (pa_cons (pe_lst (StX.pa_star (pe_fld (pv 0) rfl) (StX.pa_star (pe_fld (pv 1) rfl) pa_nil))) pa_nil)))), ?_⟩
    rw [show L2.start ["self", "other"] [.ref p, .ref r] = [some (.ref p), some (.ref r)] from rfl]
    have l1 := hk.len
    have l2 := hk'.len
    have ll : (zs ++ (zs' ++ [])).length ≤ sizeLine := Nat.le_trans (m := 300) (by simp; omega) (by decide)
    walk_at "rd"
    rw [List.append_nil]
    intro l hl
    have n1 := same_upd (o := .lst (zs ++ zs')) hl
    walk_at "rd"
    intro c dc hc hdc hnc
    refine clim_made' hc hdc upd_same (KVs.keep (pr_app hk hk') (.same n1)) (by rw [List.length_append]; omega) (app_good g1 g2) fun H1 s1 hC => ⟨rfl, ?_⟩
    exact q c H1 (n1.trans s1) hC

theorem ok_Climate_and {f : Addr} {fd : FuncData} (F : L2.Fun K "__and__" "Climate.__and__" s_Climate_and f fd)
    {C_Climate : Addr} (T_Climate : S_Climate K mg C_Climate)
    (z_max : mg "max" = none)
    (z_min : mg "min" = none)
    {f_Climate_init : Addr} {fd_Climate_init : FuncData} (G_Climate_init : FnOk P w K mg base CX0 3 f_Climate_init fd_Climate_init ["self", "kinds"] (sp_Climate_init K C_Climate)) (b_Climate_init : Binds K fd_Climate_init ["self", "kinds"] []) (I_Climate : Mk K C_Climate f_Climate_init) :
    FnOk P w K mg base CX0 5 f fd ["self", "other"] (sp_Climate_and K C_Climate) := by
  refine F.ok sc_Climate_and (fun vs H Q E h => ?_) (fun cdv A outer s H vs Q E hr h => ?_)
  · obtain ⟨p, r, ks, ms, rfl, _⟩ := h
    rfl
  · obtain ⟨p, r, ks, ms, rfl, ⟨dx, t, zs, hp, ht, hk⟩, ⟨dy, u, zs', hr0, hu, hk'⟩, hn, hn', g1, g2, q⟩ := h
    refine ⟨_, (pss_one (ps_ret (pe_make I_Climate G_Climate_init (hr.mono (by decide)) (by rfl) T_Climate.mg b_Climate_init .nil pass0 (pa_cons (pe_lc2 (own := [("w", 2), ("g", 3), ("v", 4), ("r", 5)]) (vs1 := [4, 5]) (by rfl) sc_Climate_and.nd (pi_tup (pe_fld (pv 0) rfl)) (blkOk_by (N := N_Climate_and) (sc := defScope s_Climate_and) (by decide +kernel)) (by decide) (fun _ _ _ _ _ => (OW.pg_tupK (K := K) (n := 2) rfl rfl (pgs_cons (pg_name (i := 2) sc_Climate_and.nd rfl (by first | exact Or.inl rfl | exact Or.inr rfl)) (pgs_cons (pg_name (i := 3) sc_Climate_and.nd rfl (by first | exact Or.inl rfl | exact Or.inr rfl)) pgs_nil)))) (fun _ _ _ _ _ => pts_nil) (fun _ _ _ _ _ => (OW.pi_tupK (K := K) rfl (OW.pe_fldK (K := K) rfl (pv 1) rfl))) (fun _ _ _ _ _ => (OW.pg_tupK (K := K) (n := 2) rfl rfl (pgs_cons (pg_name (i := 4) sc_Climate_and.nd rfl (by first | exact Or.inl rfl | exact Or.inr rfl)) (pgs_cons (pg_name (i := 5) sc_Climate_and.nd rfl (by first | exact Or.inl rfl | exact Or.inr rfl)) pgs_nil)))) (fun _ _ _ _ _ => pts_nil) (fun _ _ _ _ _ => (pe_tup (pa_cons (pe_callB (OW.c_min2 rfl) (by rfl) z_min (by decide +kernel) (pa_cons (pv 2) (pa_cons (pv 4) pa_nil))) (pa_cons (pe_callB (OW.c_max2 rfl) (by rfl) z_max (by decide +kernel) (pa_cons (pv 3) (pa_cons (pv 5) pa_nil))) pa_nil))))) pa_nil)))), ?_⟩
    rw [show L2.start ["self", "other", "w", "g", "v", "r"] [.ref p, .ref r] = [some (.ref p), some (.ref r), none, none, none, none] from rfl]
    have l1 := hk.len
    have l2 := hk'.len
    walk_at "rd"
    unfold tLc2
    walk_at "rd"
    intro D hD
    refine R.out_tup (xs := zs) (fun i H' => ∃ acc, H' D = some (.lst acc) ∧ Same H H' ∧ KVs H' acc (mt (ks.take i) ms)) ⟨[], upd_same, same_upd hD, .nil⟩ (fun i H' _ ⟨_, _, sm, _⟩ => SqT.of (sm _ _ ht)) ?_ ?_
    · rintro i x H1 hx ⟨acc, a1, sm, ak⟩
      obtain ⟨k, tk, e1, rfl, e2⟩ := hk.at hx
      have il := (List.getElem?_eq_some_iff.mp e1).1
      have e3 := sm _ _ e2
      have snoc := mt_snoc (ks.take i) ms k
      rw [take_snoc e1] at snoc
      have hr1 := sm _ _ hr0
      walk_at "rd"
      refine R.itupx (SqT.of (sm _ _ hu)) ?_
      refine R.in_tup (xs := zs') (fun j H' => ∃ acc', H' D = some (.lst acc') ∧ Same H H' ∧ KVs H' acc' (mt (ks.take i) ms ++ (ms.take j).map fun m => (min k.1 m.1, max k.2 m.2)))
        ⟨acc, a1, sm, by rw [List.take_zero, List.map_nil, List.append_nil]; exact ak⟩ (fun j H' _ ⟨_, _, sm, _⟩ => SqT.of (sm _ _ hu)) ?_ ?_
      · rintro j y H2 hy ⟨acc', b1, sm2, bk⟩
        obtain ⟨m, tm, f1, rfl, f2⟩ := hk'.at hy
        have jl := (List.getElem?_eq_some_iff.mp f1).1
        have f3 := sm2 _ _ f2
        have bl : acc'.length < sizeLine := by
          have := bk.len
          rw [List.length_append, mt_len, List.length_map, List.length_take, List.length_take] at this
          have z : min i ks.length * ms.length ≤ 16 * 16 := Nat.mul_le_mul (by omega) hn'
          exact Nat.lt_of_le_of_lt (m := 300) (by omega) (by decide)
        walk_at "rd"
        refine ⟨rfl, ?_⟩
        walk_at "rd"
        rw [min_py, max_py]
        intro tn htn
        have b2 : upd H2 tn (.tup [.int (min k.1 m.1), .int (max k.2 m.2)]) D = some (.lst acc') := by rw [upd_ne (ne_of_none b1 htn)]; exact b1
        refine ⟨acc', b2, bl, _, upd_same, fun bb o e => ?_, ?_⟩
        · rw [upd_ne (ne_of_none e hD), upd_ne (ne_of_none (sm2 _ _ e) htn)]
          exact sm2 _ _ e
        · rw [← take_snoc f1, List.map_append, ← List.append_assoc]
          refine bk.snoc (t := tn) ((TK.new htn).trans (.lst b2)) ?_
          rw [upd_ne (ne_of_none b1 htn).symm]
          exact upd_same
      · rintro H2 ⟨acc', b1, sm2, bk⟩
        rw [l2, List.take_length] at bk
        exact ⟨acc', b1, sm2, by rw [snoc]; exact bk⟩
    · rintro H1 ⟨acc, a1, sm, ak⟩
      rw [l1, List.take_length] at ak
      walk_at "rd"
      intro c dc hc hdc hnc
      refine clim_made' hc hdc a1 ak (by rw [mt_len]; exact Nat.le_trans (Nat.mul_le_mul hn hn') (by decide)) (mt_good g1 g2) fun H2 s2 hC => ⟨rfl, ?_⟩
      exact q c H2 (sm.trans s2) hC

theorem ok_Climate_longest {f : Addr} {fd : FuncData} (F : L2.Fun K "longest" "Climate.longest" s_Climate_longest f fd)
    {C_Climate : Addr} (T_Climate : S_Climate K mg C_Climate)
    (z_max : mg "max" = none) :
    FnOk P w K mg base CX0 1 f fd ["self", "run"] (sp_Climate_longest K C_Climate) := by
  refine F.ok sc_Climate_longest (fun vs H Q E h => ?_) (fun cdv A outer s H vs Q E hr h => ?_)
  · obtain ⟨p, L, ks, rfl, _⟩ := h
    rfl
  · obtain ⟨p, L, ks, rfl, ⟨dx, t, zs, hp, ht, hk⟩, hn, q⟩ := h
    refine ⟨_, (pss_one (ps_ret (pe_callBK (OW.c_maxD rfl hr.units) (by rfl) z_max (by decide +kernel) (pa_cons (pe_lc (own := [("w", 2), ("g", 3)]) (by rfl) sc_Climate_longest.nd (pi_tup (pe_fld (pv 0) rfl)) (blkOk_by (N := N_Climate_longest) (sc := defScope s_Climate_longest) (by decide +kernel)) (fun _ _ _ _ _ => (OW.pg_tupK (K := K) (n := 2) rfl rfl (pgs_cons (pg_name (i := 2) sc_Climate_longest.nd rfl (by first | exact Or.inl rfl | exact Or.inr rfl)) (pgs_cons (pg_name (i := 3) sc_Climate_longest.nd rfl (by first | exact Or.inl rfl | exact Or.inr rfl)) pgs_nil)))) (fun _ _ _ _ _ => pts_one (pt_cmpR op_le (pv 3) (pv 1) (nomark _))) (fun _ _ _ _ _ => (pv 2))) pa_nil) (pk_cons pe_int pk_nil)))), ?_⟩
    rw [show L2.start ["self", "run", "w", "g"] [.ref p, .int L] = [some (.ref p), some (.int L), none, none] from rfl]
    walk_at "rd"
    intro D hD
    refine lc_tup (xs := zs) (fun i H' => ∃ ns : List Int, H' D = some (.lst (ns.map V.int)) ∧ Same H H' ∧ ns = ((ks.take i).filter fun k => decide (k.2 ≤ L)).map (·.1) ∧ ns.length ≤ i) ⟨[], upd_same, same_upd hD, rfl, Nat.le_refl _⟩ (fun i H' _ ⟨_, _, sm, _⟩ => SqT.of (sm _ _ ht)) ?_ ?_
    · rintro i x H1 hx ⟨ns, g1, sm, en, gl⟩
      obtain ⟨k, tk, e1, rfl, e2⟩ := hk.at hx
      have il := (List.getElem?_eq_some_iff.mp e1).1
      have e3 := sm _ _ e2
      have snoc := wl_snoc (ks.take i) k L
      rw [take_snoc e1, ← en] at snoc
      walk_at "rd"
      refine R.iteD (fun c => ?_) (fun c => ?_)
      · rw [if_pos c] at snoc
        walk_at "rd"
        refine ⟨_, g1, Nat.lt_of_le_of_lt (m := 300) (by rw [List.length_map]; omega) (by decide), ns ++ [k.1], ?_, fun bb o e => ?_, snoc.symm, by simp; omega⟩
        · rw [List.map_append]
          exact upd_same
        · rw [upd_ne (ne_of_none e hD)]
          exact sm _ _ e
      · rw [if_neg c, List.append_nil] at snoc
        exact ⟨ns, g1, sm, snoc.symm, by omega⟩
    · rintro H1 ⟨ns, g1, sm, en, gl⟩
      rw [hk.len, List.take_length] at en
      subst en
      walk_at "rd"
      refine R.maxd (SqL.of g1) ?_
      exact q H1 sm

theorem ok_f_top_kinds {f : Addr} {fd : FuncData} (F : L2.Fun K "_top_kinds" "_top_kinds" s_f_top_kinds f fd)
    {C_Lacquer : Addr} (T_Lacquer : S_Lacquer K mg C_Lacquer)
    (z_min : mg "min" = none)
    (z_range : mg "range" = none)
    {f_Lacquer_slack : Addr} {fd_Lacquer_slack : FuncData} (G_Lacquer_slack : FnOk P w K mg base CX0 1 f_Lacquer_slack fd_Lacquer_slack ["self"] (sp_Lacquer_slack C_Lacquer)) (b_Lacquer_slack : Binds K fd_Lacquer_slack ["self"] []) {p_Lacquer_slack : Addr} (P_Lacquer_slack : PropOf K C_Lacquer "slack" p_Lacquer_slack f_Lacquer_slack)
    {f_Lacquer_spans : Addr} {fd_Lacquer_spans : FuncData} (G_Lacquer_spans : FnOk P w K mg base CX0 3 f_Lacquer_spans fd_Lacquer_spans ["self", "w"] (sp_Lacquer_spans C_Lacquer)) (b_Lacquer_spans : Binds K fd_Lacquer_spans ["self", "w"] []) (M_Lacquer_spans : Meth K C_Lacquer "spans" f_Lacquer_spans) :
    FnOk P w K mg base CX0 4 f fd ["lacquer"] (sp_f_top_kinds C_Lacquer) := by
  refine F.ok sc_f_top_kinds (fun vs H Q E h => ?_) (fun cdv A outer s H vs Q E hr h => ?_)
  · obtain ⟨p, a, b, rfl, _⟩ := h
    rfl
  · obtain ⟨p, a, b, rfl, hp0, h1, h2, h3, q⟩ := h
    refine ⟨_, (pss_cons (ps_set (i := 1) sc_f_top_kinds.nd rfl (by first | exact Or.inl rfl | exact Or.inr rfl) (pe_op op_sub (pe_fld (pv 0) rfl) pe_int))
      (pss_cons (ps_set (i := 2) sc_f_top_kinds.nd rfl (by first | exact Or.inl rfl | exact Or.inr rfl) (pe_meth (pv 0) T_Lacquer.cl M_Lacquer_spans G_Lacquer_spans (hr.mono (by decide)) b_Lacquer_spans .nil pass0 (pa_cons (pv 1) pa_nil)))
      (pss_one (ps_ret (pe_lc (own := [("j", 3)]) (by rfl) sc_f_top_kinds.nd (pi_range2 (by rfl) z_range (pa_cons pe_int (pa_cons (pe_op op_add (pv 2) pe_int) pa_nil))) (blkOk_by (N := N_f_top_kinds) (sc := defScope s_f_top_kinds) (by decide +kernel)) (fun _ _ _ _ _ => (pg_name (i := 3) sc_f_top_kinds.nd rfl (by first | exact Or.inl rfl | exact Or.inr rfl))) (fun _ _ _ _ _ => pts_nil) (fun _ _ _ _ _ => (pe_tup (pa_cons (pe_callB (OW.c_min2 rfl) (by rfl) z_min (by decide +kernel) (pa_cons (pv 1) (pa_cons (pe_op op_mul (pv 3) (pe_prop (pv 0) T_Lacquer.cl P_Lacquer_slack G_Lacquer_slack (hr.mono (by decide)) b_Lacquer_slack .nil pass0 rfl)) pa_nil))) (pa_cons (pe_op op_add (pe_op op_mul (pe_op op_sub (pv 3) pe_int) (OW.pe_fldK (K := K) rfl (pv 0) rfl)) pe_int) pa_nil))))))))), ?_⟩
    rw [show L2.start ["lacquer", "longest", "many", "j"] [.ref p] = [some (.ref p), none, none, none] from rfl]
    obtain ⟨dx, hp⟩ := id hp0
    have c0 := cd_pos (x := b - 1) (y := b - a) (by omega) (by omega)
    have c1 := cd_le (x := b - 1) (y := b - a) (by omega) (by omega)
    walk_at "rd"
    refine ⟨p, a, b, b - 1, rfl, hp0, h1, h2, h3, by omega, ?_⟩
    walk_at "rd"
    intro D hD
    refine lc_range (fun i H' => ∃ acc, H' D = some (.lst acc) ∧ Same H H' ∧ KVs H' acc ((upTo i).map fun j => (min (b - 1) (j * (b - a)), (j - 1) * a + 1)) ∧ acc.length ≤ i) ⟨[], upd_same, same_upd hD, .nil, Nat.le_refl _⟩ ?_ ?_
    · rintro i H1 hi ⟨acc, a1, sm, ak, al⟩
      have hp1 := sm _ _ hp
      have e1 : (1 : Int) + (i : Int) = (i : Int) + 1 := by omega
      walk_at "rd"
      refine ⟨p, a, b, rfl, ⟨dx, hp1⟩, ?_⟩
      walk_at "rd"
      rw [min_py, e1]
      intro tn htn
      have a2 : upd H1 tn (.tup [.int (min (b - 1) (((i : Int) + 1) * (b - a))), .int (((i : Int) + 1 - 1) * a + 1)]) D = some (.lst acc) := by rw [upd_ne (ne_of_none a1 htn)]; exact a1
      refine ⟨acc, a2, Nat.lt_of_le_of_lt (m := 300) (by omega) (by decide), _, upd_same, fun bb o e => ?_, ?_, by simp; omega⟩
      · rw [upd_ne (ne_of_none e hD), upd_ne (ne_of_none (sm _ _ e) htn)]
        exact sm _ _ e
      · rw [upTo_succ, List.map_append]
        refine ak.snoc (t := tn) ((TK.new htn).trans (.lst a2)) ?_
        rw [upd_ne (ne_of_none a1 htn).symm]
        exact upd_same
    · rintro H1 ⟨acc, a1, sm, ak, al⟩
      exact q D acc H1 sm hD a1 (by
        unfold topK
        rw [show ((cd (b - 1) (b - a)) + 1 - 1).toNat = (cd (b - 1) (b - a)).toNat by omega] at ak
        exact ak)

theorem ok_f_greatest_seen {f : Addr} {fd : FuncData} (F : L2.Fun K "greatest_seen" "greatest_seen" s_f_greatest_seen f fd)
    {C_BadNumber : Addr} (T_BadNumber : S_BadNumber K mg C_BadNumber)
    {C_Climate : Addr} (T_Climate : S_Climate K mg C_Climate)
    {C_Lacquer : Addr} (T_Lacquer : S_Lacquer K mg C_Lacquer)
    {f_f_check_sight : Addr} {fd_f_check_sight : FuncData} (G_f_check_sight : FnOk P w K mg base (L2.CX P w) 1 f_f_check_sight fd_f_check_sight ["sight"] (sp_f_check_sight C_BadNumber)) (m_f_check_sight : mg "check_sight" = some (.ref f_f_check_sight)) (k_f_check_sight : PySem.W.keepIn K (.ref f_f_check_sight) = true) (b_f_check_sight : Binds K fd_f_check_sight ["sight"] [])
    {f_f_top_kinds : Addr} {fd_f_top_kinds : FuncData} (G_f_top_kinds : FnOk P w K mg base CX0 4 f_f_top_kinds fd_f_top_kinds ["lacquer"] (sp_f_top_kinds C_Lacquer)) (m_f_top_kinds : mg "_top_kinds" = some (.ref f_f_top_kinds)) (k_f_top_kinds : PySem.W.keepIn K (.ref f_f_top_kinds) = true) (b_f_top_kinds : Binds K fd_f_top_kinds ["lacquer"] [])
    {f_Climate_init : Addr} {fd_Climate_init : FuncData} (G_Climate_init : FnOk P w K mg base CX0 3 f_Climate_init fd_Climate_init ["self", "kinds"] (sp_Climate_init K C_Climate)) (b_Climate_init : Binds K fd_Climate_init ["self", "kinds"] []) (I_Climate : Mk K C_Climate f_Climate_init) :
    FnOk P w K mg base (L2.CX P w) 5 f fd ["lacquer", "sight"] (sp_f_greatest_seen K C_Lacquer C_Climate C_BadNumber) := by
  refine F.okX sc_f_greatest_seen (fun vs H Q E h => ?_) (fun cdv A outer s H vs Q E hr h => ?_)
  · obtain ⟨p, a, b, v, rfl, _⟩ := h
    rfl
  · obtain ⟨p, a, b, v, rfl, hp0, h1, h2, h3, hv, k0, k1⟩ := h
    refine ⟨_, (pss_cons (ps_expr (pe_callS G_f_check_sight (hr.mono (by decide)) (by rfl) m_f_check_sight k_f_check_sight b_f_check_sight (fun σ => passAt (takes_of rfl rfl rfl rfl) σ) (pa_cons (pv 1) pa_nil)))
      (pss_one (ps_ret (pe_make I_Climate G_Climate_init (hr.mono (by decide)) (by rfl) T_Climate.mg b_Climate_init .nil pass0 (pa_cons (pe_slice sl_list (pe_call G_f_top_kinds (hr.mono (by decide)) (by rfl) m_f_top_kinds k_f_top_kinds b_f_top_kinds .nil pass0 (pa_cons (pv 0) pa_nil)) po_none (po_some (pe_op op_add (pe_op op_fdiv (pv 1) (pe_fld (pv 0) rfl)) pe_int))) pa_nil))))), ?_⟩
    rw [show L2.start ["lacquer", "sight"] [.ref p, .int v] = [some (.ref p), some (.int v)] from rfl]
    obtain ⟨dx, hp⟩ := id hp0
    walk_at "rd"
    refine ⟨v, rfl, k0, fun v0 => ?_⟩
    have q0 : 0 ≤ v / a := Int.ediv_nonneg v0 (by omega)
    walk_at "rd"
    refine ⟨p, a, b, rfl, hp0, h1, h2, h3, fun r zs H1 s1 hr hr1 hk => ?_⟩
    have hp1 := s1 _ _ hp
    have tl := topK_len h1 h2 h3
    have zl := hk.len
    walk_at "rd"
    rw [cut_take (by omega)]
    intro l hl
    have n1 := same_upd (o := .lst (zs.take (v / a + 1).toNat)) hl
    walk_at "rd"
    intro c dc hc hdc hnc
    refine clim_made' hc hdc upd_same (KVs.keep (pr_take _ hk) (.same n1)) (by have := seenK_len (v := v) h1 h2 h3; unfold seenK at this; omega) (seenK_good h1 h2 h3) fun H2 s2 hC => ⟨rfl, ?_⟩
    exact k1 v0 c H2 (s1.trans (n1.trans s2)) hC

theorem ok_f_greatest_booked {f : Addr} {fd : FuncData} (F : L2.Fun K "greatest_booked" "greatest_booked" s_f_greatest_booked f fd)
    {C_BadKind : Addr} (T_BadKind : S_BadKind K mg C_BadKind)
    {C_BadNumber : Addr} (T_BadNumber : S_BadNumber K mg C_BadNumber)
    {C_Climate : Addr} (T_Climate : S_Climate K mg C_Climate)
    {C_Lacquer : Addr} (T_Lacquer : S_Lacquer K mg C_Lacquer)
    (z_max : mg "max" = none)
    (z_range : mg "range" = none)
    {f_f_check_sight : Addr} {fd_f_check_sight : FuncData} (G_f_check_sight : FnOk P w K mg base (L2.CX P w) 1 f_f_check_sight fd_f_check_sight ["sight"] (sp_f_check_sight C_BadNumber)) (m_f_check_sight : mg "check_sight" = some (.ref f_f_check_sight)) (k_f_check_sight : PySem.W.keepIn K (.ref f_f_check_sight) = true) (b_f_check_sight : Binds K fd_f_check_sight ["sight"] [])
    {f_f_kind_booking : Addr} {fd_f_kind_booking : FuncData} (G_f_kind_booking : FnOk P w K mg base (L2.CX P w) 6 f_f_kind_booking fd_f_kind_booking ["lacquer", "w", "g"] (sp_f_kind_booking K C_Lacquer C_BadKind)) (m_f_kind_booking : mg "kind_booking" = some (.ref f_f_kind_booking)) (k_f_kind_booking : PySem.W.keepIn K (.ref f_f_kind_booking) = true) (b_f_kind_booking : Binds K fd_f_kind_booking ["lacquer", "w", "g"] [])
    {f_Climate_init : Addr} {fd_Climate_init : FuncData} (G_Climate_init : FnOk P w K mg base CX0 3 f_Climate_init fd_Climate_init ["self", "kinds"] (sp_Climate_init K C_Climate)) (b_Climate_init : Binds K fd_Climate_init ["self", "kinds"] []) (I_Climate : Mk K C_Climate f_Climate_init)
    {f_Lacquer_lead : Addr} {fd_Lacquer_lead : FuncData} (G_Lacquer_lead : FnOk P w K mg base CX0 4 f_Lacquer_lead fd_Lacquer_lead ["self", "w"] (sp_Lacquer_lead C_Lacquer)) (b_Lacquer_lead : Binds K fd_Lacquer_lead ["self", "w"] []) (M_Lacquer_lead : Meth K C_Lacquer "lead" f_Lacquer_lead) :
    FnOk P w K mg base (L2.CX P w) 7 f fd ["lacquer", "sight"] (sp_f_greatest_booked K C_Lacquer C_Climate C_BadNumber) := by
  refine F.okX sc_f_greatest_booked (fun vs H Q E h => ?_) (fun cdv A outer s H vs Q E hr h => ?_)
  · obtain ⟨p, a, b, v, rfl, _⟩ := h
    rfl
  · obtain ⟨p, a, b, v, rfl, hp0, h1, h2, h3, hv, k0, k1, k2⟩ := h
    refine ⟨_, (pss_cons (ps_expr (pe_callS G_f_check_sight (hr.mono (by decide)) (by rfl) m_f_check_sight k_f_check_sight b_f_check_sight (fun σ => passAt (takes_of rfl rfl rfl rfl) σ) (pa_cons (pv 1) pa_nil)))
      (pss_cons (ps_if (pt_cmpR op_lt (pv 1) (pe_fld (pv 0) rfl) (nomark _))
      (pss_one (ps_ret pe_non))
      pss_nil)
      (pss_cons (ps_set (i := 2) sc_f_greatest_booked.nd rfl (by first | exact Or.inl rfl | exact Or.inr rfl) (pe_lst pa_nil))
      (pss_cons (ps_for (passes_of rfl) rfl (pi_range2 (by rfl) z_range (pa_cons pe_int (pa_cons (pe_fld (pv 0) rfl) pa_nil))) (pg_name (i := 3) sc_f_greatest_booked.nd rfl (by first | exact Or.inl rfl | exact Or.inr rfl))
      (pss_one (ps_for (passes_of rfl) rfl (pi_tup (pe_tup (pa_cons (pe_op op_add (pe_meth (pv 0) T_Lacquer.cl M_Lacquer_lead G_Lacquer_lead (hr.mono (by decide)) b_Lacquer_lead .nil pass0 (pa_cons (pv 3) pa_nil)) pe_int) (pa_cons (pe_op op_add (pe_callB (OW.c_max2 rfl) (by rfl) z_max (by decide +kernel) (pa_cons (pe_meth (pv 0) T_Lacquer.cl M_Lacquer_lead G_Lacquer_lead (hr.mono (by decide)) b_Lacquer_lead .nil pass0 (pa_cons (pv 3) pa_nil)) (pa_cons (pe_fld (pv 0) rfl) pa_nil))) pe_int) pa_nil)))) (pg_name (i := 4) sc_f_greatest_booked.nd rfl (by first | exact Or.inl rfl | exact Or.inr rfl))
      (pss_one (ps_if (pt_cmpR op_le (pe_callS G_f_kind_booking (hr.mono (by decide)) (by rfl) m_f_kind_booking k_f_kind_booking b_f_kind_booking (fun σ => passAt (takes_of rfl rfl rfl rfl) σ) (pa_cons (pv 0) (pa_cons (pv 3) (pa_cons (pv 4) pa_nil)))) (pv 1) (nomark _))
      (pss_one (ps_expr (pe_bm PySem.F.plainAttrs_list PySem.F.slot_list_append PySem.F.type_list_append mt_append (pv 2) (pa_cons (pe_tup (pa_cons (pv 3) (pa_cons (pv 4) pa_nil))) pa_nil))))
      pss_nil)))))
      (pss_one (ps_ret (pe_make I_Climate G_Climate_init (hr.mono (by decide)) (by rfl) T_Climate.mg b_Climate_init .nil pass0 (pa_cons (pv 2) pa_nil)))))))), ?_⟩
    rw [show L2.start ["lacquer", "sight", "kinds", "w", "g"] [.ref p, .int v] = [some (.ref p), some (.int v), none, none, none] from rfl]
    obtain ⟨dx, hp⟩ := id hp0
    walk_at "rd"
    refine ⟨v, rfl, k0, fun v0 => ?_⟩
    walk_at "rd"
    refine R.iteD (fun c0 => ?_) (fun c0 => ?_)
    · walk_at "rd"
      exact k1 v0 c0
    · walk_at "rd"
      intro l hl
      have n1 := same_upd (o := .lst []) hl
      walk_at "rd"
      refine R.forR (fun i σ H' => ∃ x y, σ = [some (.ref p), some (.int v), some (.ref l), x, y] ∧ ∃ zs, H' l = some (.lst zs) ∧ Same H H' ∧ KVs H' zs (gbI a b v i)) ⟨none, none, rfl, [], upd_same, n1, .nil⟩ ?_ ?_
      · rintro i σ H1 hi ⟨x, y, rfl, zs, g1, sm, gk⟩
        have e1 : (1 : Int) + (i : Int) = (i : Int) + 1 := by omega
        have hp1 := sm _ _ hp
        walk_at "rd"
        rw [e1]
        refine ⟨p, a, b, _, rfl, ⟨dx, hp1⟩, h1, h2, h3, by omega, by omega, ?_⟩
        walk_at "rd"
        refine ⟨p, a, b, _, rfl, ⟨dx, hp1⟩, h1, h2, h3, by omega, by omega, ?_⟩
        walk_at "rd"
        rw [max_py]
        intro r hr
        refine ⟨r, rfl, ⟨_, SqT.of upd_same⟩, ?_⟩
        obtain ⟨l0, l1⟩ := ldd_small (w := (i : Int) + 1) h1 h2 h3 (by omega) (by omega)
        have sm1 := sm.trans (same_upd (o := .tup [V.int (ldd a b ((i : Int) + 1) + 1), V.int (max (ldd a b ((i : Int) + 1)) a + 1)]) hr)
        refine R.forT (xs := (gb2 a b ((i : Int) + 1)).map fun k => V.int k.2) (fun j σ H' => ∃ y, σ = [some (.ref p), some (.int v), some (.ref l), some (.int ((i : Int) + 1)), y] ∧ ∃ zs, H' l = some (.lst zs) ∧ Same H H' ∧ H' r = some (.tup ((gb2 a b ((i : Int) + 1)).map fun k => V.int k.2)) ∧ KVs H' zs (gbI a b v i ++ ((gb2 a b ((i : Int) + 1)).take j).filter fun k => decide (bkN a b k ≤ v))) ⟨y, rfl, zs, ?_, sm1, upd_same, ?_⟩ (fun _ _ _ _ ⟨_, _, _, _, _, c3, _⟩ => SqT.of c3) ?_ ?_
        · rw [upd_ne (ne_of_none g1 hr)]
          exact g1
        · rw [List.take_zero, List.filter_nil, List.append_nil]
          exact gk.keep (TK.new hr)
        · rintro j x σ G hx ⟨y, rfl, zs', c1, sm2, c3, ck⟩
          obtain ⟨k, e1, rfl⟩ : ∃ k, (gb2 a b ((i : Int) + 1))[j]? = some k ∧ V.int k.2 = x := by
            rw [List.getElem?_map] at hx
            exact Option.map_eq_some_iff.mp hx
          obtain ⟨kw, kg⟩ := gb2_mem (List.mem_of_getElem? e1)
          have jl := (List.getElem?_eq_some_iff.mp e1).1
          have snoc : ((gb2 a b ((i : Int) + 1)).take (j + 1)).filter (fun k => decide (bkN a b k ≤ v)) = ((gb2 a b ((i : Int) + 1)).take j).filter (fun k => decide (bkN a b k ≤ v)) ++ [k].filter (fun k => decide (bkN a b k ≤ v)) := by rw [← take_snoc e1, List.filter_append]
          obtain ⟨w, g⟩ := k
          have kw' : w = (i : Int) + 1 := kw
          subst kw'
          have kg' : g = ldd a b ((i : Int) + 1) + 1 ∨ g = max (ldd a b ((i : Int) + 1)) a + 1 := kg
          have szl : zs'.length < sizeLine := by
            have q1 := ck.len
            have q2 := gbI_len a b v i
            have q3 := List.length_filter_le (fun k : Int × Int => decide (bkN a b k ≤ v)) ((gb2 a b ((i : Int) + 1)).take j)
            rw [List.length_take] at q3
            rw [List.length_append] at q1
            have q4 : (gb2 a b ((i : Int) + 1)).length = 2 := rfl
            exact Nat.lt_of_le_of_lt (m := 300) (by omega) (by decide)
          walk_at "rd"
          refine ⟨p, a, b, _, _, rfl, ⟨dx, sm2 _ _ hp⟩, h1, h2, h3, ⟨by omega, by omega⟩, ⟨by omega, by omega⟩, fun h => absurd ⟨by omega, by omega, by omega, by omega⟩ h, fun _ G2 s2 => ?_⟩
          rw [if_pos (sndB_iff.mpr ⟨by show (i : Int) + 1 < b; omega, by show ldd a b ((i : Int) + 1) < g; omega⟩)]
          have c1' := s2 _ _ c1
          walk_at "rd"
          refine R.iteD (fun d1 => ?_) (fun d1 => ?_)
          · walk_at "rd"
            intro tn htn
            have g3 : upd G2 tn (.tup [.int ((i : Int) + 1), .int g]) l = some (.lst zs') := by
              rw [upd_ne (ne_of_none (s2 _ _ c1) htn)]
              exact s2 _ _ c1
            walk_at "rd"
            have fp : [((i : Int) + 1, g)].filter (fun k => decide (bkN a b k ≤ v)) = [((i : Int) + 1, g)] := List.filter_cons_of_pos (decide_eq_true d1)
            refine ⟨_, rfl, _, upd_same, fun bb o e => ?_, ?_, ?_⟩
            · rw [upd_ne (ne_of_none e hl), upd_ne (ne_of_none (s2 _ _ (sm2 _ _ e)) htn)]
              exact s2 _ _ (sm2 _ _ e)
            · rw [upd_ne (ne_of_none g1 hr).symm, upd_ne (ne_of_none (s2 _ _ c3) htn)]
              exact s2 _ _ c3
            · rw [snoc, fp, ← List.append_assoc]
              refine (ck.keep (.same s2)).snoc (t := tn) ((TK.new htn).trans (.lst g3)) ?_
              rw [upd_ne (ne_of_none (s2 _ _ c1) htn).symm]
              exact upd_same
          · walk_at "rd"
            have fn : [((i : Int) + 1, g)].filter (fun k => decide (bkN a b k ≤ v)) = [] := List.filter_cons_of_neg (by simp only [decide_eq_true_eq]; exact d1)
            refine ⟨_, rfl, zs', s2 _ _ c1, sm2.trans s2, s2 _ _ c3, ?_⟩
            rw [snoc, fn, List.append_nil]
            exact ck.keep (.same s2)
        · rintro σ G ⟨y, rfl, zs', c1, sm2, c3, ck⟩
          rw [List.length_map, List.take_length] at ck
          refine ⟨_, _, rfl, zs', c1, sm2, ?_⟩
          rw [gbI_succ]
          exact ck
      · rintro σ H1 ⟨x, y, rfl, zs, g1, sm, gk⟩
        walk_at "rd"
        intro c dc hc hdc hnc
        have gk' : KVs H1 zs (gbK a b v) := gk
        refine clim_made' hc hdc g1 gk' (by have := gbI_len a b v (b - 1).toNat; unfold gbK; omega) (gbK_good h1 h2 h3) fun H2 s2 hC => ⟨rfl, ?_⟩
        exact k2 (by omega) c H2 (sm.trans s2) hC

theorem ok_f_beneath {f : Addr} {fd : FuncData} (F : L2.Fun K "beneath" "beneath" s_f_beneath f fd)
    {C_Climate : Addr} (T_Climate : S_Climate K mg C_Climate)
    (z_all : mg "all" = none)
    {f_Climate_iter : Addr} {fd_Climate_iter : FuncData} (G_Climate_iter : OW.FnS P w K mg base 1 f_Climate_iter fd_Climate_iter ["self"] (sp_Climate_iter K C_Climate)) (b_Climate_iter : Binds K fd_Climate_iter ["self"] []) (M_Climate_iter : Meth K C_Climate "__iter__" f_Climate_iter)
    {f_Climate_longest : Addr} {fd_Climate_longest : FuncData} (G_Climate_longest : FnOk P w K mg base CX0 1 f_Climate_longest fd_Climate_longest ["self", "run"] (sp_Climate_longest K C_Climate)) (b_Climate_longest : Binds K fd_Climate_longest ["self", "run"] []) (M_Climate_longest : Meth K C_Climate "longest" f_Climate_longest) :
    FnOk P w K mg base CX0 2 f fd ["one", "other"] (sp_f_beneath K C_Climate) := by
  refine F.ok sc_f_beneath (fun vs H Q E h => ?_) (fun cdv A outer s H vs Q E hr h => ?_)
  · obtain ⟨p, r, ks, ms, rfl, _⟩ := h
    rfl
  · obtain ⟨p, r, ks, ms, rfl, ⟨dx, t, zs, hp, ht, hk⟩, hC, hn, hm, q⟩ := h
    refine ⟨_, (pss_one (ps_ret (pe_callB (cr_all rfl) (by rfl) z_all (by decide +kernel) (pa_cons (pe_lc (own := [("w", 2), ("g", 3)]) (by rfl) sc_f_beneath.nd (OW.pi_own (pv 0) M_Climate_iter G_Climate_iter (hr.mono (by decide)) b_Climate_iter) (blkOk_by (N := N_f_beneath) (sc := defScope s_f_beneath) (by decide +kernel)) (fun _ _ _ _ _ => (OW.pg_tupK (K := K) (n := 2) rfl rfl (pgs_cons (pg_name (i := 2) sc_f_beneath.nd rfl (by first | exact Or.inl rfl | exact Or.inr rfl)) (pgs_cons (pg_name (i := 3) sc_f_beneath.nd rfl (by first | exact Or.inl rfl | exact Or.inr rfl)) pgs_nil)))) (fun _ _ _ _ _ => pts_nil) (fun _ _ _ _ _ => (pe_cmpR op_le (pv 2) (pe_meth (pv 1) T_Climate.cl M_Climate_longest G_Climate_longest (hr.mono (by decide)) b_Climate_longest .nil pass0 (pa_cons (pv 3) pa_nil)) (nomark _)))) pa_nil)))), ?_⟩
    rw [show L2.start ["one", "other", "w", "g"] [.ref p, .ref r] = [some (.ref p), some (.ref r), none, none] from rfl]
    walk_at "rd"
    refine clim_walk hp ht ?_
    intro D hD
    refine lc_tup (xs := zs) (fun i H' => H' D = some (.lst (((ks.take i).map fun k => decide (k.1 ≤ wl ms k.2)).map V.bl)) ∧ Same H H') ⟨upd_same, same_upd hD⟩ (fun i H' _ ⟨_, sm⟩ => SqT.of (sm _ _ ht)) ?_ ?_
    · rintro i x H1 hx ⟨g1, sm⟩
      obtain ⟨k, tk, e1, rfl, e2⟩ := hk.at hx
      have il := (List.getElem?_eq_some_iff.mp e1).1
      have e3 := sm _ _ e2
      obtain ⟨dy, u, zs', hr1, hu1, hk1⟩ := hC.same sm
      walk_at "rd"
      refine ⟨r, _, ms, rfl, ⟨dy, u, zs', hr1, hu1, hk1⟩, hm, fun H2 s2 => ?_⟩
      have g2 := s2 _ _ g1
      have sm2 := sm.trans s2
      walk_at "rd"
      refine ⟨_, g2, Nat.lt_of_le_of_lt (m := 300) ?_ (by decide), ?_, fun bb o e => ?_⟩
      · rw [List.length_map, List.length_map, List.length_take]
        omega
      · rw [← take_snoc e1, List.map_append, List.map_append]
        exact upd_same
      · rw [upd_ne (ne_of_none e hD)]
        exact sm2 _ _ e
    · rintro H1 ⟨g1, sm⟩
      rw [hk.len, List.take_length] at g1
      walk_at "rd"
      refine R.all (SqL.of g1) ?_
      rw [show (ks.map fun k => decide (k.1 ≤ wl ms k.2)).all id = bnB ks ms by unfold bnB; rw [List.all_map]; rfl]
      exact q H1 sm

theorem ok_l_cell {f : Addr} {fd : FuncData} (F : L2.Fun K "_law_cell" "_law_cell" s_l_cell f fd)
    (z_len : mg "len" = none) :
    FnOk P w K mg base CX0 1 f fd ["script", "k"] (sp_l_cell K) := by
  refine F.ok sc_l_cell (fun vs H Q E h => ?_) (fun cdv A outer s H vs Q E hr h => ?_)
  · obtain ⟨a, ns, k, rfl, _⟩ := h
    rfl
  · obtain ⟨a, ns, k, rfl, hS, q⟩ := h
    refine ⟨_, (pss_cons (ps_if (pt_cmpR op_lt (pv 1) (pe_callB OW.c_len (by rfl) z_len (by decide +kernel) (pa_cons (pv 0) pa_nil)) (nomark _))
      (pss_one (ps_ret (pe_ix ix_list (pv 0) (pv 1) (fun _ _ => rfl))))
      pss_nil)
      (pss_one (ps_ret (pe_op op_add (pe_op op_mul pe_int (pv 1)) pe_int)))), ?_⟩
    rw [show L2.start ["script", "k"] [.ref a, .int k] = [some (.ref a), some (.int k)] from rfl]
    walk_at "rd"
    refine R.iteD (fun h => ?_) (fun h => ?_)
    · have hk : k < ns.length := by
        rw [List.length_map] at h
        omega
      walk_at "rd"
      refine R.ixl hS (v := .int ns[k]) (atI_nat (by rw [List.getElem?_map, List.getElem?_eq_getElem hk]; rfl)) ?_
      exact q _
    · walk_at "rd"
      exact q _

theorem ok_l_pool {f : Addr} {fd : FuncData} (F : L2.Fun K "_law_pool" "_law_pool" s_l_pool f fd)
    (z_int : mg "int" = none) :
    FnOk P w K mg base CX0 1 f fd ["cell"] sp_l_pool := by
  refine F.ok sc_l_pool (fun vs H Q E h => ?_) (fun cdv A outer s H vs Q E hr h => ?_)
  · obtain ⟨i, rfl, _⟩ := h
    rfl
  · obtain ⟨i, rfl, q⟩ := h
    refine ⟨_, (pss_cons (ps_if (pt_cmpR op_ge (pv 0) (pe_op op_pow pe_int pe_int) (nomark _))
      (pss_one (ps_ret (pe_lst (pa_cons (pe_op op_sub (pv 0) (pe_op op_pow pe_int pe_int)) (pa_cons (pe_op op_mod (pe_callTy OW.c_int1 (by rfl) z_int (by decide +kernel) (pa_cons (pv 0) pa_nil)) pe_int) (pa_cons pe_int pa_nil))))))
      pss_nil)
      (pss_cons (ps_if (pt_cmpR op_lt (pv 0) pe_int (nomark _))
      (pss_one (ps_ret (pe_lst (pa_cons pe_int (pa_cons (pe_op op_mod (pe_callTy OW.c_int1 (by rfl) z_int (by decide +kernel) (pa_cons (pe_op op_sub pe_int (pe_op op_mul pe_int (pv 0))) pa_nil)) pe_int) (pa_cons pe_int pa_nil))))))
      pss_nil)
      (pss_one (ps_ret (pe_lst (pa_cons pe_int (pa_cons (pe_op op_mod (pe_callTy OW.c_int1 (by rfl) z_int (by decide +kernel) (pa_cons (pe_op op_mul pe_int (pv 0)) pa_nil)) pe_int) (pa_cons pe_int pa_nil)))))))), ?_⟩
    rw [show L2.start ["cell"] [.int i] = [some (.int i)] from rfl]
    walk_at "rd"
    refine R.iteD (fun h => ?_) (fun h => ?_)
    · walk_at "rd"
      exact fun p hp => q p _ _ _ hp
    · walk_at "rd"
      refine R.iteD (fun h => ?_) (fun h => ?_)
      · walk_at "rd"
        exact fun p hp => q p _ _ _ hp
      · walk_at "rd"
        exact fun p hp => q p _ _ _ hp

theorem ok_l_take {f : Addr} {fd : FuncData} (F : L2.Fun K "_law_take" "_law_take" s_l_take f fd)
    (z_int : mg "int" = none) :
    FnOk P w K mg base CX0 1 f fd ["pool", "size"] sp_l_take := by
  refine F.ok sc_l_take (fun vs H Q E h => ?_) (fun cdv A outer s H vs Q E hr h => ?_)
  · obtain ⟨a, n, rfl, _⟩ := h
    rfl
  · obtain ⟨a, n, rfl, ⟨p0, p1, p2, ha⟩, hn, hn2, q⟩ := h
    refine ⟨_, (pss_cons (ps_asg (pe_op op_add (pe_ix ix_list (pv 0) pe_int (fun _ _ => rfl)) pe_int) (pg_sub (pv 0) pe_int set_list))
      (pss_cons (ps_if (pt_cmpR op_gt (pe_ix ix_list (pv 0) pe_int (fun _ _ => rfl)) pe_int (nomark _))
      (pss_cons (ps_set (i := 2) sc_l_take.nd rfl (by first | exact Or.inl rfl | exact Or.inr rfl) (pe_op op_mod (pe_callTy OW.c_int1 (by rfl) z_int (by decide +kernel) (pa_cons (pe_ix ix_list (pv 0) pe_int (fun _ _ => rfl)) pa_nil)) (pv 1)))
      (pss_cons (ps_asg (pe_op op_fdiv (pe_ix ix_list (pv 0) pe_int (fun _ _ => rfl)) (pv 1)) (pg_sub (pv 0) pe_int set_list))
      (pss_one (ps_ret (pv 2)))))
      pss_nil)
      (pss_cons (ps_set (i := 3) sc_l_take.nd rfl (by first | exact Or.inl rfl | exact Or.inr rfl) (pe_op op_mod (pe_callTy OW.c_int1 (by rfl) z_int (by decide +kernel) (pa_cons (pe_op op_add (pe_op op_add (pe_ix ix_list (pv 0) pe_int (fun _ _ => rfl)) (pe_op op_mul pe_int (pe_ix ix_list (pv 0) pe_int (fun _ _ => rfl)))) pe_int) pa_nil)) pe_int))
      (pss_cons (ps_set (i := 3) sc_l_take.nd rfl (by first | exact Or.inl rfl | exact Or.inr rfl) (pe_op op_mod (pe_callTy OW.c_int1 (by rfl) z_int (by decide +kernel) (pa_cons (pe_op op_add (pe_op op_add (pe_op op_mul (pv 3) (pv 3)) (pe_op op_mul pe_int (pe_ix ix_list (pv 0) pe_int (fun _ _ => rfl)))) pe_int) pa_nil)) pe_int))
      (pss_cons (ps_set (i := 3) sc_l_take.nd rfl (by first | exact Or.inl rfl | exact Or.inr rfl) (pe_op op_mod (pe_callTy OW.c_int1 (by rfl) z_int (by decide +kernel) (pa_cons (pe_op op_add (pe_op op_add (pe_op op_mul (pv 3) (pv 3)) (pe_op op_mul pe_int (pe_ix ix_list (pv 0) pe_int (fun _ _ => rfl)))) pe_int) pa_nil)) pe_int))
      (pss_one (ps_ret (pe_op op_mod (pe_callTy OW.c_int1 (by rfl) z_int (by decide +kernel) (pa_cons (pe_op op_fdiv (pv 3) pe_int) pa_nil)) (pv 1))))))))), ?_⟩
    rw [show L2.start ["pool", "size", "digit", "x"] [.ref a, .int n] = [some (.ref a), some (.int n), none, none] from rfl]
    walk_at "rd"
    refine R.iteD (fun h => ?_) (fun h => ?_)
    · walk_at "rd"
      rw [upd_upd]
      exact q _ _ (Int.emod_nonneg _ (by omega)) (Int.emod_lt_of_pos _ hn) ⟨_, _, _, upd_same⟩ Chg.upd
    · walk_at "rd"
      exact q _ _ (Int.emod_nonneg _ (by omega)) (Int.emod_lt_of_pos _ hn) ⟨_, _, _, upd_same⟩ Chg.upd

theorem ok_l_up {f : Addr} {fd : FuncData} (F : L2.Fun K "_law_up" "_law_up" s_l_up f fd)
     :
    FnOk P w K mg base CX0 1 f fd ["x", "y"] sp_l_up := by
  refine F.ok sc_l_up (fun vs H Q E h => ?_) (fun cdv A outer s H vs Q E hr h => ?_)
  · obtain ⟨x, y, rfl, _⟩ := h
    rfl
  · obtain ⟨x, y, rfl, hy, hy2, q⟩ := h
    refine ⟨_, (pss_one (ps_ret (pe_op op_fdiv (pe_op op_sub (pe_op op_add (pv 0) (pv 1)) pe_int) (pv 1)))), ?_⟩
    rw [show L2.start ["x", "y"] [.int x, .int y] = [some (.int x), some (.int y)] from rfl]
    walk_at "rd"
    rw [up_cd hy]
    exact q

theorem ok_l_same {f : Addr} {fd : FuncData} (F : L2.Fun K "_law_same" "_law_same" s_l_same f fd)
    {kk rr : Nat}
    (z_bool : mg "bool" = none)
    (z_int : mg "int" = none)
    (z_isinstance : mg "isinstance" = none)
    (z_len : mg "len" = none)
    (z_list : mg "list" = none)
    (z_range : mg "range" = none)
    (z_str : mg "str" = none)
    (z_tuple : mg "tuple" = none)
    (kit_bool_bool : PySem.W.kitOne K (.type "bool") (.type "bool") = some true)
    (kit_int_bool : PySem.W.kitOne K (.type "int") (.type "bool") = some false)
    (kit_int_int : PySem.W.kitOne K (.type "int") (.type "int") = some true)
    (kit_list_bool : PySem.W.kitOne K (.type "list") (.type "bool") = some false)
    (kit_list_int : PySem.W.kitOne K (.type "list") (.type "int") = some false)
    (kit_list_list : PySem.W.kitOne K (.type "list") (.type "list") = some true)
    (kit_list_str : PySem.W.kitOne K (.type "list") (.type "str") = some false)
    (kit_list_tuple : PySem.W.kitOne K (.type "list") (.type "tuple") = some false)
    (kit_str_bool : PySem.W.kitOne K (.type "str") (.type "bool") = some false)
    (kit_str_int : PySem.W.kitOne K (.type "str") (.type "int") = some false)
    (kit_str_str : PySem.W.kitOne K (.type "str") (.type "str") = some true)
    (kit_tuple_bool : PySem.W.kitOne K (.type "tuple") (.type "bool") = some false)
    (kit_tuple_int : PySem.W.kitOne K (.type "tuple") (.type "int") = some false)
    (kit_tuple_list : PySem.W.kitOne K (.type "tuple") (.type "list") = some false)
    (kit_tuple_str : PySem.W.kitOne K (.type "tuple") (.type "str") = some false)
    (kit_tuple_tuple : PySem.W.kitOne K (.type "tuple") (.type "tuple") = some true)
    {f_l_same : Addr} {fd_l_same : FuncData} (G_l_same : FnOk P w K mg base CX0 kk f_l_same fd_l_same ["actual", "due"] (sp_l_same K rr)) (m_l_same : mg "_law_same" = some (.ref f_l_same)) (k_l_same : PySem.W.keepIn K (.ref f_l_same) = true) (b_l_same : Binds K fd_l_same ["actual", "due"] []) :
    FnOk P w K mg base CX0 (kk + 1) f fd ["actual", "due"] (sp_l_same K (rr + 1)) := by
  refine F.ok sc_l_same (fun vs H Q E h => ?_) (fun cdv A outer s H vs Q E hr h => ?_)
  · obtain ⟨x, y, d, rfl, _⟩ := h
    rfl
  · obtain ⟨x, y, d, rfl, hx, hy, hl, q⟩ := h
    refine ⟨_, (pss_cons (ps_if (pt_cmpR OW.o_isN (pv 1) pe_non (nomark _))
      (pss_one (ps_ret (pe_cmpR OW.o_isN (pv 0) pe_non (nomark _))))
      pss_nil)
      (pss_cons (ps_if (pt_val (pe_callB call_isi (by rfl) z_isinstance (by decide +kernel) (pa_cons (pv 1) (pa_cons (pe_bltn (v := .ty "bool") (by rfl) z_bool (by decide +kernel) rfl) pa_nil))))
      (pss_one (ps_ret (pe_and (pe_callB call_isi (by rfl) z_isinstance (by decide +kernel) (pa_cons (pv 0) (pa_cons (pe_bltn (v := .ty "bool") (by rfl) z_bool (by decide +kernel) rfl) pa_nil))) (pe_one (pe_cmpR op_eq (pv 0) (pv 1) (nomark _))))))
      pss_nil)
      (pss_cons (ps_if (pt_val (pe_callB call_isi (by rfl) z_isinstance (by decide +kernel) (pa_cons (pv 1) (pa_cons (pe_bltn (v := .ty "int") (by rfl) z_int (by decide +kernel) rfl) pa_nil))))
      (pss_one (ps_ret (pe_and (pe_callB call_isi (by rfl) z_isinstance (by decide +kernel) (pa_cons (pv 0) (pa_cons (pe_bltn (v := .ty "int") (by rfl) z_int (by decide +kernel) rfl) pa_nil))) (pe_and (pe_not (pe_callB call_isi (by rfl) z_isinstance (by decide +kernel) (pa_cons (pv 0) (pa_cons (pe_bltn (v := .ty "bool") (by rfl) z_bool (by decide +kernel) rfl) pa_nil)))) (pe_one (pe_cmpR op_eq (pv 0) (pv 1) (nomark _)))))))
      pss_nil)
      (pss_cons (ps_if (pt_val (pe_callB call_isi (by rfl) z_isinstance (by decide +kernel) (pa_cons (pv 1) (pa_cons (pe_bltn (v := .ty "str") (by rfl) z_str (by decide +kernel) rfl) pa_nil))))
      (pss_one (ps_ret (pe_and (pe_callB call_isi (by rfl) z_isinstance (by decide +kernel) (pa_cons (pv 0) (pa_cons (pe_bltn (v := .ty "str") (by rfl) z_str (by decide +kernel) rfl) pa_nil))) (pe_one (pe_cmpR op_eq (pv 0) (pv 1) (nomark _))))))
      pss_nil)
      (pss_cons (ps_if (PW.pt (pw_and (pt_val (pe_callB call_isi (by rfl) z_isinstance (by decide +kernel) (pa_cons (pv 1) (pa_cons (pe_bltn (v := .ty "tuple") (by rfl) z_tuple (by decide +kernel) rfl) pa_nil)))) (pw_and1 (pt_not (pt_val (pe_callB call_isi (by rfl) z_isinstance (by decide +kernel) (pa_cons (pv 0) (pa_cons (pe_bltn (v := .ty "tuple") (by rfl) z_tuple (by decide +kernel) rfl) pa_nil))))))))
      (pss_one (ps_ret pe_bl))
      pss_nil)
      (pss_cons (ps_if (PW.pt (pw_and (pt_val (pe_callB call_isi (by rfl) z_isinstance (by decide +kernel) (pa_cons (pv 1) (pa_cons (pe_bltn (v := .ty "list") (by rfl) z_list (by decide +kernel) rfl) pa_nil)))) (pw_and1 (pt_not (pt_val (pe_callB call_isi (by rfl) z_isinstance (by decide +kernel) (pa_cons (pv 0) (pa_cons (pe_bltn (v := .ty "list") (by rfl) z_list (by decide +kernel) rfl) pa_nil))))))))
      (pss_one (ps_ret pe_bl))
      pss_nil)
      (pss_cons (ps_if (pt_cmpR op_ne (pe_callB OW.c_len (by rfl) z_len (by decide +kernel) (pa_cons (pv 0) pa_nil)) (pe_callB OW.c_len (by rfl) z_len (by decide +kernel) (pa_cons (pv 1) pa_nil)) (nomark _))
      (pss_one (ps_ret pe_bl))
      pss_nil)
      (pss_cons (ps_for PassesOwn.never rfl (pi_range1 (by rfl) z_range (pa_cons (pe_callB OW.c_len (by rfl) z_len (by decide +kernel) (pa_cons (pv 1) pa_nil)) pa_nil)) (pg_name (i := 2) sc_l_same.nd rfl (by first | exact Or.inl rfl | exact Or.inr rfl))
      (pss_one (ps_if (pt_not (pt_val (pe_call G_l_same hr (by rfl) m_l_same k_l_same b_l_same .nil pass0 (pa_cons (pe_ix ix_seq (pv 0) (pv 2) (fun _ _ => rfl)) (pa_cons (pe_ix ix_seq (pv 1) (pv 2) (fun _ _ => rfl)) pa_nil)))))
      (pss_one (ps_ret pe_bl))
      pss_nil)))
      (pss_one (ps_ret pe_bl)))))))))), ?_⟩
    rw [show L2.start ["actual", "due", "k"] [x, y] = [some (x), some (y), none] from rfl]
    -- kit_bool_bool kit_int_bool kit_str_bool kit_list_bool kit_tuple_bool kit_int_int kit_str_int kit_list_int kit_tuple_int kit_str_str kit_list_str kit_tuple_str kit_tuple_tuple kit_list_tuple kit_list_list kit_tuple_list
    cases d with
    | none =>
      obtain rfl := inv_non hx
      obtain rfl := inv_non hy
      walk_at "rd"
      exact q
    | bool d =>
      obtain rfl := inv_bl hx
      obtain rfl := inv_bl hy
      walk_at "rd"
      simpa using q
    | int d =>
      obtain rfl := inv_int hx
      obtain rfl := inv_int hy
      walk_at "rd"
      simpa using q
    | str d =>
      obtain rfl := inv_str hx
      obtain rfl := inv_str hy
      walk_at "rd"
      simpa using q
    | dict kvs => exact (inv_dict hx).elim
    | list ds =>
      obtain ⟨a, xs, rfl, h1, t1, a1⟩ := inv_list hx
      obtain ⟨b, ys, rfl, h2, t2, a2⟩ := inv_list hy
      have e1 := dpall_len a1
      have e2 := dpall_len a2
      have e3 : ds.length ≤ 100000 := hl.1
      walk_at "rd"
      refine lenS2 h1 ?_
      walk_at "rd"
      refine lenS2 h2 ?_
      walk_at "rd"
      refine lenS2 h2 ?_
      walk_at "rd"
      refine R.forR (fun i σ H' => ∃ v, σ = [some (.ref a), some (.ref b), v] ∧ H' = H) ⟨none, rfl, rfl⟩ ?_ ?_
      · rintro i σ H1 hi ⟨v, rfl, rfl⟩
        have hi2 : i < ds.length := by omega
        obtain ⟨x1, d1, g1, g2, g3⟩ := dpall_at a1 hi2
        obtain ⟨y1, d2, g4, g5, g6⟩ := dpall_at a2 hi2
        rw [g2] at g5
        cases Option.some.inj g5
        walk_at "rd"
        refine ixS2 h1 g1 ?_
        walk_at "rd"
        refine ixS2 h2 g4 ?_
        walk_at "rd"
        refine ⟨x1, y1, d1, rfl, g3, g6, hl.2 _ (List.mem_of_getElem? g2), ?_⟩
        walk_at "rd"
        exact ⟨_, rfl, rfl⟩
      · rintro σ H1 ⟨v, rfl, rfl⟩
        walk_at "rd"
        exact q
    | tuple ds =>
      obtain ⟨a, xs, rfl, h1, t1, a1⟩ := inv_tuple hx
      obtain ⟨b, ys, rfl, h2, t2, a2⟩ := inv_tuple hy
      have e1 := dpall_len a1
      have e2 := dpall_len a2
      have e3 : ds.length ≤ 100000 := hl.1
      walk_at "rd"
      refine lenS2 h1 ?_
      walk_at "rd"
      refine lenS2 h2 ?_
      walk_at "rd"
      refine lenS2 h2 ?_
      walk_at "rd"
      refine R.forR (fun i σ H' => ∃ v, σ = [some (.ref a), some (.ref b), v] ∧ H' = H) ⟨none, rfl, rfl⟩ ?_ ?_
      · rintro i σ H1 hi ⟨v, rfl, rfl⟩
        have hi2 : i < ds.length := by omega
        obtain ⟨x1, d1, g1, g2, g3⟩ := dpall_at a1 hi2
        obtain ⟨y1, d2, g4, g5, g6⟩ := dpall_at a2 hi2
        rw [g2] at g5
        cases Option.some.inj g5
        walk_at "rd"
        refine ixS2 h1 g1 ?_
        walk_at "rd"
        refine ixS2 h2 g4 ?_
        walk_at "rd"
        refine ⟨x1, y1, d1, rfl, g3, g6, hl.2 _ (List.mem_of_getElem? g2), ?_⟩
        walk_at "rd"
        exact ⟨_, rfl, rfl⟩
      · rintro σ H1 ⟨v, rfl, rfl⟩
        walk_at "rd"
        exact q

theorem ok_l_ab {f : Addr} {fd : FuncData} (F : L2.Fun K "_law_ab" "_law_ab" s_l_ab f fd)
    {f_l_take : Addr} {fd_l_take : FuncData} (G_l_take : FnOk P w K mg base CX0 1 f_l_take fd_l_take ["pool", "size"] sp_l_take) (m_l_take : mg "_law_take" = some (.ref f_l_take)) (k_l_take : PySem.W.keepIn K (.ref f_l_take) = true) (b_l_take : Binds K fd_l_take ["pool", "size"] []) :
    FnOk P w K mg base CX0 2 f fd ["pool", "most"] sp_l_ab := by
  refine F.ok sc_l_ab (fun vs H Q E h => ?_) (fun cdv A outer s H vs Q E hr h => ?_)
  · obtain ⟨a, most, rfl, _⟩ := h
    rfl
  · obtain ⟨a, most, rfl, hP, h1, h2, q⟩ := h
    refine ⟨_, (pss_cons (ps_set (i := 2) sc_l_ab.nd rfl (by first | exact Or.inl rfl | exact Or.inr rfl) (pe_op op_add pe_int (pe_call G_l_take (hr.mono (by decide)) (by rfl) m_l_take k_l_take b_l_take .nil pass0 (pa_cons (pv 0) (pa_cons (pe_op op_sub (pv 1) pe_int) pa_nil)))))
      (pss_one (ps_ret (pe_tup (pa_cons (pv 2) (pa_cons (pe_op op_add (pe_op op_add (pv 2) pe_int) (pe_call G_l_take (hr.mono (by decide)) (by rfl) m_l_take k_l_take b_l_take .nil pass0 (pa_cons (pv 0) (pa_cons (pe_op op_sub (pv 1) (pv 2)) pa_nil)))) pa_nil)))))), ?_⟩
    rw [show L2.start ["pool", "most", "a"] [.ref a, .int most] = [some (.ref a), some (.int most), none] from rfl]
    walk_at "rd"
    refine ⟨a, _, rfl, hP, by omega, by omega, fun d H1 e0 e1 hP1 c1 => ?_⟩
    walk_at "rd"
    refine ⟨a, _, rfl, hP1, by omega, by omega, fun d2 H2 e2 e3 hP2 c2 => ?_⟩
    walk_at "rd"
    intro t ht
    have c3 := c1.trans c2
    exact q _ _ t _ (by omega) (by omega) (by omega) (hP2.keep (same_upd ht)) (c3.new ht hP2.some) (c3.free hP2.some ht) upd_same

theorem ok_l_kinds {f : Addr} {fd : FuncData} (F : L2.Fun K "_law_kinds" "_law_kinds" s_l_kinds f fd)
    (z_range : mg "range" = none)
    {f_l_take : Addr} {fd_l_take : FuncData} (G_l_take : FnOk P w K mg base CX0 1 f_l_take fd_l_take ["pool", "size"] sp_l_take) (m_l_take : mg "_law_take" = some (.ref f_l_take)) (k_l_take : PySem.W.keepIn K (.ref f_l_take) = true) (b_l_take : Binds K fd_l_take ["pool", "size"] []) :
    FnOk P w K mg base CX0 2 f fd ["pool", "most", "peak", "need"] sp_l_kinds := by
  refine F.ok sc_l_kinds (fun vs H Q E h => ?_) (fun cdv A outer s H vs Q E hr h => ?_)
  · obtain ⟨a, most, peak, need, rfl, _⟩ := h
    rfl
  · obtain ⟨a, most, peak, need, rfl, hP, h1, h2, h3, h4, h5, h6, q⟩ := h
    refine ⟨_, (pss_cons (ps_set (i := 4) sc_l_kinds.nd rfl (by first | exact Or.inl rfl | exact Or.inr rfl) (pe_lst pa_nil))
      (pss_cons (ps_for PassesOwn.never rfl (pi_range1 (by rfl) z_range (pa_cons (pe_call G_l_take (hr.mono (by decide)) (by rfl) m_l_take k_l_take b_l_take .nil pass0 (pa_cons (pv 0) (pa_cons (pe_op op_add (pv 1) pe_int) pa_nil))) pa_nil)) (pg_name (i := 5) sc_l_kinds.nd rfl (by first | exact Or.inl rfl | exact Or.inr rfl))
      (pss_cons (ps_set (i := 6) sc_l_kinds.nd rfl (by first | exact Or.inl rfl | exact Or.inr rfl) (pe_op op_add pe_int (pe_call G_l_take (hr.mono (by decide)) (by rfl) m_l_take k_l_take b_l_take .nil pass0 (pa_cons (pv 0) (pa_cons (pv 2) pa_nil)))))
      (pss_one (ps_expr (pe_bm PySem.F.plainAttrs_list PySem.F.slot_list_append PySem.F.type_list_append mt_append (pv 4) (pa_cons (pe_tup (pa_cons (pv 6) (pa_cons (pe_op op_add pe_int (pe_call G_l_take (hr.mono (by decide)) (by rfl) m_l_take k_l_take b_l_take .nil pass0 (pa_cons (pv 0) (pa_cons (pv 3) pa_nil)))) pa_nil))) pa_nil))))))
      (pss_one (ps_ret (pv 4))))), ?_⟩
    rw [show L2.start ["pool", "most", "peak", "need", "kinds", "k", "w"] [.ref a, .int most, .int peak, .int need] = [some (.ref a), some (.int most), some (.int peak), some (.int need), none, none, none] from rfl]
    walk_at "rd"
    intro l hl
    have la := hP.ne hl
    have hP1 := hP.keep (same_upd (o := .lst []) hl)
    walk_at "rd"
    refine ⟨a, _, rfl, hP1, by omega, by omega, fun n H2 e0 e1 hP2 c2 => ?_⟩
    walk_at "rd"
    refine R.forR (fun i σ H' => ∃ v w, σ = [some (.ref a), some (.int most), some (.int peak), some (.int need), some (.ref l), v, w] ∧ ∃ ks : List (Int × Int), DrawnAt a H H' l ks ∧ ks.length = i ∧ Bnd ks peak need) ⟨none, none, rfl, [], ⟨[], hl, la, c2 _ _ la upd_same, .nil, hP2, ?_⟩, rfl, fun k hk => by simp at hk⟩ ?_ ?_
    · exact fun b o nb e => c2 b o nb (by rw [upd_ne (ne_of_none e hl)]; exact e)
    · rintro i σ H3 hi ⟨v, w, rfl, ks, ⟨ys, _, _, g1, g2, hP3, c3⟩, kl, bd⟩
      have ysz : ys.length < sizeLine := Nat.lt_of_le_of_lt (m := 300) (by have := g2.len; omega) (by decide)
      walk_at "rd"
      refine ⟨a, _, rfl, hP3, by omega, by omega, fun d H4 e2 e3 hP4 c4 => ?_⟩
      have g3 := c4 _ _ la g1
      walk_at "rd"
      refine ⟨a, _, rfl, hP4, by omega, by omega, fun d2 H5 e4 e5 hP5 c5 => ?_⟩
      walk_at "rd"
      intro t ht
      obtain ⟨z1, z2⟩ := DrawnAt.push (w := 1 + d) (g := 1 + d2) hl la g1 g2 hP3 c3 (c4.trans c5) hP5 ht
      walk_at "rd"
      exact ⟨_, _, rfl, _, z2, by simp [kl], bd.snoc (by omega) (by omega) (by omega) (by omega)⟩
    · rintro σ H3 ⟨v, w, rfl, ks, g1, kl, bd⟩
      walk_at "rd"
      exact q l ks H3 g1 (by omega) bd

theorem ok_l_lead {f : Addr} {fd : FuncData} (F : L2.Fun K "_law_lead" "_law_lead" s_l_lead f fd)
    {f_l_up : Addr} {fd_l_up : FuncData} (G_l_up : FnOk P w K mg base CX0 1 f_l_up fd_l_up ["x", "y"] sp_l_up) (m_l_up : mg "_law_up" = some (.ref f_l_up)) (k_l_up : PySem.W.keepIn K (.ref f_l_up) = true) (b_l_up : Binds K fd_l_up ["x", "y"] []) :
    FnOk P w K mg base CX0 2 f fd ["a", "b", "w"] sp_l_lead := by
  refine F.ok sc_l_lead (fun vs H Q E h => ?_) (fun cdv A outer s H vs Q E hr h => ?_)
  · obtain ⟨a, b, w, rfl, _⟩ := h
    rfl
  · obtain ⟨a, b, w, rfl, h1, h2, h3, h4, h5, q⟩ := h
    refine ⟨_, (pss_one (ps_ret (pe_op op_mul (pe_op op_sub (pe_call G_l_up (hr.mono (by decide)) (by rfl) m_l_up k_l_up b_l_up .nil pass0 (pa_cons (pv 2) (pa_cons (pe_op op_sub (pv 1) (pv 0)) pa_nil))) pe_int) (pv 0)))), ?_⟩
    rw [show L2.start ["a", "b", "w"] [.int a, .int b, .int w] = [some (.int a), some (.int b), some (.int w)] from rfl]
    have z1 := cd_pos (x := w) (y := b - a) (by omega) (by omega)
    have z2 := cd_le (x := w) (y := b - a) (by omega) (by omega)
    walk_at "rd"
    refine ⟨w, b - a, rfl, by omega, by omega, ?_⟩
    walk_at "rd"
    exact q

theorem ok_l_sound_kinds {f : Addr} {fd : FuncData} (F : L2.Fun K "_law_sound_kinds" "_law_sound_kinds" s_l_sound_kinds f fd)
    (z_min : mg "min" = none)
    (z_range : mg "range" = none)
    {f_l_lead : Addr} {fd_l_lead : FuncData} (G_l_lead : FnOk P w K mg base CX0 2 f_l_lead fd_l_lead ["a", "b", "w"] sp_l_lead) (m_l_lead : mg "_law_lead" = some (.ref f_l_lead)) (k_l_lead : PySem.W.keepIn K (.ref f_l_lead) = true) (b_l_lead : Binds K fd_l_lead ["a", "b", "w"] [])
    {f_l_take : Addr} {fd_l_take : FuncData} (G_l_take : FnOk P w K mg base CX0 1 f_l_take fd_l_take ["pool", "size"] sp_l_take) (m_l_take : mg "_law_take" = some (.ref f_l_take)) (k_l_take : PySem.W.keepIn K (.ref f_l_take) = true) (b_l_take : Binds K fd_l_take ["pool", "size"] []) :
    FnOk P w K mg base CX0 3 f fd ["pool", "ab", "most", "peak", "need"] (sp_l_sound_kinds K) := by
  refine F.ok sc_l_sound_kinds (fun vs H Q E h => ?_) (fun cdv A outer s H vs Q E hr h => ?_)
  · obtain ⟨p, t, a, b, most, peak, need, rfl, _⟩ := h
    rfl
  · obtain ⟨p, t, a, b, most, peak, need, rfl, hP, ht, h1, h2, h3, h4, h5, h6, h7, h8, h9, q⟩ := h
    refine ⟨_, (pss_cons (ps_set (i := 5) sc_l_sound_kinds.nd rfl (by first | exact Or.inl rfl | exact Or.inr rfl) (pe_ix ix_tup (pv 1) pe_int (fun _ _ => rfl)))
      (pss_cons (ps_set (i := 6) sc_l_sound_kinds.nd rfl (by first | exact Or.inl rfl | exact Or.inr rfl) (pe_ix ix_tup (pv 1) pe_int (fun _ _ => rfl)))
      (pss_cons (ps_set (i := 7) sc_l_sound_kinds.nd rfl (by first | exact Or.inl rfl | exact Or.inr rfl) (pe_callB (OW.c_min3 rfl) (by rfl) z_min (by decide +kernel) (pa_cons (pv 3) (pa_cons (pe_op op_sub (pv 6) pe_int) (pa_cons (pe_op op_mul (pe_op op_add (pe_op op_fdiv (pe_op op_sub (pv 4) pe_int) (pv 5)) pe_int) (pe_op op_sub (pv 6) (pv 5))) pa_nil)))))
      (pss_cons (ps_set (i := 8) sc_l_sound_kinds.nd rfl (by first | exact Or.inl rfl | exact Or.inr rfl) (pe_lst pa_nil))
      (pss_cons (ps_for PassesOwn.never rfl (pi_range1 (by rfl) z_range (pa_cons (pe_call G_l_take (hr.mono (by decide)) (by rfl) m_l_take k_l_take b_l_take .nil pass0 (pa_cons (pv 0) (pa_cons (pe_op op_add (pv 2) pe_int) pa_nil))) pa_nil)) (pg_name (i := 9) sc_l_sound_kinds.nd rfl (by first | exact Or.inl rfl | exact Or.inr rfl))
      (pss_cons (ps_set (i := 10) sc_l_sound_kinds.nd rfl (by first | exact Or.inl rfl | exact Or.inr rfl) (pe_op op_add pe_int (pe_call G_l_take (hr.mono (by decide)) (by rfl) m_l_take k_l_take b_l_take .nil pass0 (pa_cons (pv 0) (pa_cons (pv 7) pa_nil)))))
      (pss_cons (ps_set (i := 11) sc_l_sound_kinds.nd rfl (by first | exact Or.inl rfl | exact Or.inr rfl) (pe_call G_l_lead (hr.mono (by decide)) (by rfl) m_l_lead k_l_lead b_l_lead .nil pass0 (pa_cons (pv 5) (pa_cons (pv 6) (pa_cons (pv 10) pa_nil)))))
      (pss_one (ps_expr (pe_bm PySem.F.plainAttrs_list PySem.F.slot_list_append PySem.F.type_list_append mt_append (pv 8) (pa_cons (pe_tup (pa_cons (pv 10) (pa_cons (pe_op op_add (pe_op op_add (pv 11) pe_int) (pe_call G_l_take (hr.mono (by decide)) (by rfl) m_l_take k_l_take b_l_take .nil pass0 (pa_cons (pv 0) (pa_cons (pe_op op_sub (pv 4) (pv 11)) pa_nil)))) pa_nil))) pa_nil)))))))
      (pss_one (ps_ret (pv 8)))))))), ?_⟩
    rw [show L2.start ["pool", "ab", "most", "peak", "need", "a", "b", "top", "kinds", "k", "w", "lead"] [.ref p, .ref t, .int most, .int peak, .int need] = [some (.ref p), some (.ref t), some (.int most), some (.int peak), some (.int need), none, none, none, none, none, none, none] from rfl]
    have tp := topW_pos (peak := peak) (need := need) h1 h2 h6 h8
    have tl : topW a b peak need ≤ min peak (b - 1) := by unfold topW; omega
    have z : 0 ≤ (need - 1) / a := Int.ediv_nonneg (by omega) (by omega)
    have z2 : (need - 1) / a ≤ need - 1 := Int.ediv_le_self _ (by omega)
    walk_at "rd"
    intro l hl
    have la := hP.ne hl
    have hP1 := hP.keep (same_upd (o := .lst []) hl)
    walk_at "rd"
    refine ⟨p, _, rfl, hP1, by omega, by omega, fun n H2 e0 e1 hP2 c2 => ?_⟩
    walk_at "rd"
    refine R.forR (fun i σ H' => ∃ v w x, σ = [some (.ref p), some (.ref t), some (.int most), some (.int peak), some (.int need), some (.int a), some (.int b), some (.int (topW a b peak need)), some (.ref l), v, w, x] ∧ ∃ ks : List (Int × Int), DrawnAt p H H' l ks ∧ ks.length = i ∧ Bnd ks (min peak (b - 1)) need ∧ ∀ k ∈ ks, ldd a b k.1 < k.2)
      ⟨none, none, none, rfl, [], ⟨[], hl, la, c2 _ _ la upd_same, .nil, hP2, ?_⟩, rfl, fun k hk => by simp at hk, fun k hk => by simp at hk⟩ ?_ ?_
    · exact fun b o nb e => c2 b o nb (by rw [upd_ne (ne_of_none e hl)]; exact e)
    · rintro i σ H3 hi ⟨v, w, x, rfl, ks, ⟨ys, _, _, g1, g2, hP3, c3⟩, kl, bd, sd⟩
      have ysz : ys.length < sizeLine := Nat.lt_of_le_of_lt (m := 300) (by have := g2.len; omega) (by decide)
      walk_at "rd"
      refine ⟨p, _, rfl, hP3, by omega, by omega, fun d H4 e2 e3 hP4 c4 => ?_⟩
      have g3 := c4 _ _ la g1
      have ll := topW_lead (peak := peak) (w := 1 + d) h1 h2 h8 (by omega) (by omega)
      have l0 := ldd_nn (w := 1 + d) h1 h2 (by omega)
      walk_at "rd"
      refine ⟨a, b, _, rfl, h1, h2, by omega, by omega, by omega, ?_⟩
      walk_at "rd"
      refine ⟨p, _, rfl, hP4, by omega, by omega, fun d2 H5 e4 e5 hP5 c5 => ?_⟩
      walk_at "rd"
      intro r hr
      obtain ⟨y1, y2⟩ := DrawnAt.push (w := 1 + d) (g := ldd a b (1 + d) + 1 + d2) hl la g1 g2 hP3 c3 (c4.trans c5) hP5 hr
      walk_at "rd"
      refine ⟨_, _, _, rfl, _, y2, by simp [kl], bd.snoc (by omega) (by omega) (by omega) (by omega), fun k hk => ?_⟩
      (rcases List.mem_append.mp hk with hk | hk)
      · exact sd k hk
      · have e : k = (1 + d, ldd a b (1 + d) + 1 + d2) := by simpa using hk
        subst e
        show ldd a b (1 + d) < ldd a b (1 + d) + 1 + d2
        omega
    · rintro σ H3 ⟨v, w, x, rfl, ks, g1, kl, bd, sd⟩
      walk_at "rd"
      exact q l ks H3 g1 (by omega) bd sd

theorem ok_l_least_run {f : Addr} {fd : FuncData} (F : L2.Fun K "_law_least_run" "_law_least_run" s_l_least_run f fd)
     :
    FnOk P w K mg base CX0 1 f fd ["kinds", "w"] (sp_l_least_run K) := by
  refine F.ok sc_l_least_run (fun vs H Q E h => ?_) (fun cdv A outer s H vs Q E hr h => ?_)
  · obtain ⟨l, ys, ks, w, rfl, _⟩ := h
    rfl
  · obtain ⟨l, ys, ks, w, rfl, hS, hk, q⟩ := h
    refine ⟨_, (pss_cons (ps_set (i := 2) sc_l_least_run.nd rfl (by first | exact Or.inl rfl | exact Or.inr rfl) pe_int)
      (pss_cons (ps_for PassesOwn.never rfl (pi_list (pv 0)) (pg_name (i := 3) sc_l_least_run.nd rfl (by first | exact Or.inl rfl | exact Or.inr rfl))
      (pss_one (ps_if (PW.pt (pw_and (pt_cmpR op_ge (pe_ix ix_tup (pv 3) pe_int (fun _ _ => rfl)) (pv 1) (nomark _)) (pw_and1 (PW.pt (pw_or (pt_cmpR op_eq (pv 2) pe_int (nomark _)) (pw_or1 (pt_cmpR op_lt (pe_ix ix_tup (pv 3) pe_int (fun _ _ => rfl)) (pv 2) (nomark _))))))))
      (pss_one (ps_set (i := 2) sc_l_least_run.nd rfl (by first | exact Or.inl rfl | exact Or.inr rfl) (pe_ix ix_tup (pv 3) pe_int (fun _ _ => rfl))))
      pss_nil)))
      (pss_one (ps_ret (pv 2))))), ?_⟩
    rw [show L2.start ["kinds", "w", "best", "kind"] [.ref l, .int w] = [some (.ref l), some (.int w), none, none] from rfl]
    walk_at "rd"
    refine R.forL (xs := ys) (fun i σ H' => ∃ v, σ = [some (.ref l), some (.int w), some (.int (lr (ks.take i) w)), v] ∧ H' = H) ⟨none, rfl, rfl⟩ (fun _ _ _ _ ⟨_, _, e⟩ => e ▸ hS) ?_ ?_
    · rintro i x σ H1 hx ⟨v, rfl, rfl⟩
      obtain ⟨k, t, h1, rfl, ht⟩ := hk.at hx
      have step := lr_snoc (ks.take i) k w
      rw [take_snoc h1] at step
      have yes : k.1 ≥ w ∧ (lr (ks.take i) w = 0 ∨ k.2 < lr (ks.take i) w) → ∃ v, [some (V.ref l), some (V.int w), some (V.int k.2), some (V.ref t)] = [some (.ref l), some (.int w), some (.int (lr (ks.take (i + 1)) w)), v] ∧ H1 = H1 := fun c => ⟨_, by rw [step, if_pos c], rfl⟩
      have no : ¬ (k.1 ≥ w ∧ (lr (ks.take i) w = 0 ∨ k.2 < lr (ks.take i) w)) → ∃ v, [some (V.ref l), some (V.int w), some (V.int (lr (ks.take i) w)), some (V.ref t)] = [some (.ref l), some (.int w), some (.int (lr (ks.take (i + 1)) w)), v] ∧ H1 = H1 := fun c => ⟨_, by rw [step, if_neg c], rfl⟩
      walk_at "rd"
      refine R.iteD (fun c1 => ?_) (fun c1 => ?_)
      · walk_at "rd"
        refine R.iteD (fun c2 => ?_) (fun c2 => ?_)
        · walk_at "rd"
          exact yes ⟨c1, .inl c2⟩
        · walk_at "rd"
          refine R.iteD (fun c3 => ?_) (fun c3 => ?_)
          · walk_at "rd"
            exact yes ⟨c1, .inr c3⟩
          · walk_at "rd"
            exact no fun z => z.2.elim c2 c3
      · walk_at "rd"
        exact no fun z => c1 z.1
    · rintro σ H1 ⟨v, rfl, rfl⟩
      rw [hk.len, List.take_length]
      walk_at "rd"
      exact q

theorem ok_l_plain {f : Addr} {fd : FuncData} (F : L2.Fun K "_law_plain" "_law_plain" s_l_plain f fd)
    (z_range : mg "range" = none)
    {f_l_least_run : Addr} {fd_l_least_run : FuncData} (G_l_least_run : FnOk P w K mg base CX0 1 f_l_least_run fd_l_least_run ["kinds", "w"] (sp_l_least_run K)) (m_l_least_run : mg "_law_least_run" = some (.ref f_l_least_run)) (k_l_least_run : PySem.W.keepIn K (.ref f_l_least_run) = true) (b_l_least_run : Binds K fd_l_least_run ["kinds", "w"] []) :
    FnOk P w K mg base CX0 2 f fd ["kinds"] (sp_l_plain K) := by
  refine F.ok sc_l_plain (fun vs H Q E h => ?_) (fun cdv A outer s H vs Q E hr h => ?_)
  · obtain ⟨l, ys, ks, rfl, _⟩ := h
    rfl
  · obtain ⟨l, ys, ks, rfl, hS, hk, q⟩ := h
    refine ⟨_, (pss_cons (ps_set (i := 1) sc_l_plain.nd rfl (by first | exact Or.inl rfl | exact Or.inr rfl) (pe_lst pa_nil))
      (pss_cons (ps_for PassesOwn.never rfl (pi_range2 (by rfl) z_range (pa_cons pe_int (pa_cons pe_int pa_nil))) (pg_name (i := 2) sc_l_plain.nd rfl (by first | exact Or.inl rfl | exact Or.inr rfl))
      (pss_cons (ps_set (i := 3) sc_l_plain.nd rfl (by first | exact Or.inl rfl | exact Or.inr rfl) (pe_call G_l_least_run (hr.mono (by decide)) (by rfl) m_l_least_run k_l_least_run b_l_least_run .nil pass0 (pa_cons (pv 0) (pa_cons (pv 2) pa_nil))))
      (pss_one (ps_if (PW.pt (pw_and (pt_cmpR op_gt (pv 3) pe_int (nomark _)) (pw_and1 (pt_cmpR op_ne (pv 3) (pe_call G_l_least_run (hr.mono (by decide)) (by rfl) m_l_least_run k_l_least_run b_l_least_run .nil pass0 (pa_cons (pv 0) (pa_cons (pe_op op_add (pv 2) pe_int) pa_nil))) (nomark _)))))
      (pss_one (ps_expr (pe_bm PySem.F.plainAttrs_list PySem.F.slot_list_append PySem.F.type_list_append mt_append (pv 1) (pa_cons (pe_tup (pa_cons (pv 2) (pa_cons (pv 3) pa_nil))) pa_nil))))
      pss_nil))))
      (pss_one (ps_ret (pv 1))))), ?_⟩
    rw [show L2.start ["kinds", "plain", "w", "here"] [.ref l] = [some (.ref l), none, none, none] from rfl]
    walk_at "rd"
    intro r hr
    walk_at "rd"
    refine R.forR (fun i σ H' => ∃ v w, σ = [some (.ref l), some (.ref r), v, w] ∧ ∃ zs, H' r = some (.lst zs) ∧ Same H H' ∧ KVs H' zs (plN ks i)) ⟨none, none, rfl, [], upd_same, same_upd hr, .nil⟩ ?_ ?_
    · rintro i σ H1 hi ⟨v, w, rfl, zs, g1, sm, gk⟩
      have zsz : zs.length < sizeLine := Nat.lt_of_le_of_lt (m := 300) (by have := gk.len; have := plN_len ks i; omega) (by decide)
      have e1 : (1 : Int) + (i : Int) = (i : Int) + 1 := by omega
      have suc := plN_succ ks i
      have hSs : SqL K H1 l ys := Same.seq sm hS
      have hks := hk.keep (.same sm)
      walk_at "rd"
      rw [e1]
      refine ⟨l, ys, ks, _, rfl, hSs, hks, ?_⟩
      walk_at "rd"
      refine R.iteD (fun c1 => ?_) (fun c1 => ?_)
      · walk_at "rd"
        refine ⟨l, ys, ks, _, rfl, hSs, hks, ?_⟩
        walk_at "rd"
        refine R.iteDN (fun c2 => ?_) (fun c2 => ?_)
        · have kp : keepW ks ((i : Int) + 1) = true := by
            unfold keepW
            (simp only [Bool.and_eq_true, decide_eq_true_eq])
            exact ⟨c1, c2⟩
          rw [if_pos kp] at suc
          walk_at "rd"
          intro t ht
          have g2 : upd H1 t (.tup [.int ((i : Int) + 1), .int (lr ks ((i : Int) + 1))]) r = some (.lst zs) := by rw [upd_ne (ne_of_none g1 ht)]; exact g1
          walk_at "rd"
          refine ⟨_, _, rfl, _, upd_same, fun b o e => ?_, ?_⟩
          · rw [upd_ne (ne_of_none e hr), upd_ne (ne_of_none (sm _ _ e) ht)]
            exact sm _ _ e
          · rw [suc]
            refine gk.snoc (t := t) ((TK.new ht).trans (.lst g2)) ?_
            rw [upd_ne (ne_of_none g1 ht).symm]
            exact upd_same
        · have kp : ¬ keepW ks ((i : Int) + 1) = true := by
            unfold keepW
            (simp only [Bool.and_eq_true, decide_eq_true_eq])
            exact fun z => z.2 c2
          rw [if_neg kp, List.append_nil] at suc
          walk_at "rd"
          exact ⟨_, _, rfl, zs, g1, sm, by rw [suc]; exact gk⟩
      · have kp : ¬ keepW ks ((i : Int) + 1) = true := by
          unfold keepW
          (simp only [Bool.and_eq_true, decide_eq_true_eq])
          exact fun z => c1 z.1
        rw [if_neg kp, List.append_nil] at suc
        walk_at "rd"
        exact ⟨_, _, rfl, zs, g1, sm, by rw [suc]; exact gk⟩
    · rintro σ H1 ⟨v, w, rfl, zs, g1, sm, gk⟩
      walk_at "rd"
      exact q r zs H1 sm hr g1 gk

theorem ok_l_wait {f : Addr} {fd : FuncData} (F : L2.Fun K "_law_wait" "_law_wait" s_l_wait f fd)
    (z_range : mg "range" = none) :
    FnOk P w K mg base CX0 1 f fd ["ab", "w"] (sp_l_wait K) := by
  refine F.ok sc_l_wait (fun vs H Q E h => ?_) (fun cdv A outer s H vs Q E hr h => ?_)
  · obtain ⟨t, a, b, w, rfl, _⟩ := h
    rfl
  · obtain ⟨t, a, b, w, rfl, ht, h1, h2, h3, h4, h5, q⟩ := h
    refine ⟨_, (pss_cons (ps_set (i := 2) sc_l_wait.nd rfl (by first | exact Or.inl rfl | exact Or.inr rfl) pe_int)
      (pss_cons (ps_for PassesOwn.never rfl (pi_range1 (by rfl) z_range (pa_cons (pv 1) pa_nil)) (pg_name (i := 3) sc_l_wait.nd rfl (by first | exact Or.inl rfl | exact Or.inr rfl))
      (pss_one (ps_if (pt_cmpR op_lt (pe_op op_mul (pv 3) (pe_op op_sub (pe_ix ix_tup (pv 0) pe_int (fun _ _ => rfl)) (pe_ix ix_tup (pv 0) pe_int (fun _ _ => rfl)))) (pv 1) (nomark _))
      (pss_one (ps_set (i := 2) sc_l_wait.nd rfl (by first | exact Or.inl rfl | exact Or.inr rfl) (pv 3)))
      pss_nil)))
      (pss_one (ps_ret (pe_op op_mul (pv 2) (pe_ix ix_tup (pv 0) pe_int (fun _ _ => rfl))))))), ?_⟩
    rw [show L2.start ["ab", "w", "steps", "k"] [.ref t, .int w] = [some (.ref t), some (.int w), none, none] from rfl]
    have nn : (0 : Int) ≤ w := by omega
    walk_at "rd"
    refine R.forR (fun j σ H' => ∃ st v, σ = [some (.ref t), some (.int w), some (.int st), v] ∧ H' = H ∧ StI (b - a) w j st) ⟨0, none, rfl, rfl, StI.zero h4⟩ ?_ ?_
    · rintro j σ H2 hj ⟨st, v2, rfl, rfl, hst⟩
      walk_at "rd"
      rw [Int.zero_add]
      refine R.iteD (fun c => ?_) (fun c => ?_)
      · walk_at "rd"
        exact ⟨_, _, rfl, rfl, hst.yes c⟩
      · walk_at "rd"
        exact ⟨_, _, rfl, rfl, hst.no c⟩
    · rintro σ H2 ⟨st, v2, rfl, rfl, hst⟩
      have le := hst.fin h2 h4
      have stb : -(2 ^ 64) < st ∧ st < 2 ^ 64 := by
        obtain ⟨a1, a2, a3, a4⟩ := hst
        omega
      walk_at "rd"
      rw [le]
      exact q

theorem ok_l_booked {f : Addr} {fd : FuncData} (F : L2.Fun K "_law_booked" "_law_booked" s_l_booked f fd)
     :
    FnOk P w K mg base CX0 1 f fd ["ab", "kind", "wait", "sight"] (sp_l_booked K) := by
  refine F.ok sc_l_booked (fun vs H Q E h => ?_) (fun cdv A outer s H vs Q E hr h => ?_)
  · obtain ⟨t, r, a, b, v, x, k, rfl, _⟩ := h
    rfl
  · obtain ⟨t, r, a, b, v, x, k, rfl, ht, hr, h1, h2, h3, hx, k0, k1⟩ := h
    refine ⟨_, (pss_cons (ps_if (PW.pt (pw_or (pt_cmpR op_ge (pe_ix ix_tup (pv 1) pe_int (fun _ _ => rfl)) (pe_ix ix_tup (pv 0) pe_int (fun _ _ => rfl)) (nomark _)) (pw_or1 (pt_cmpR op_le (pe_ix ix_tup (pv 1) pe_int (fun _ _ => rfl)) (pv 2) (nomark _)))))
      (pss_one (ps_ret pe_bl))
      pss_nil)
      (pss_cons (ps_if (PW.pt (pw_and (pt_cmpR op_le (pe_ix ix_tup (pv 1) pe_int (fun _ _ => rfl)) (pe_op op_sub (pe_ix ix_tup (pv 0) pe_int (fun _ _ => rfl)) (pe_ix ix_tup (pv 0) pe_int (fun _ _ => rfl))) (nomark _)) (pw_and1 (pt_cmpR op_ge (pv 3) (pe_op op_add (pe_ix ix_tup (pv 0) pe_int (fun _ _ => rfl)) (pe_ix ix_tup (pv 1) pe_int (fun _ _ => rfl))) (nomark _)))))
      (pss_one (ps_ret pe_bl))
      pss_nil)
      (pss_one (ps_ret (pe_and (pe_cmpR op_gt (pe_ix ix_tup (pv 1) pe_int (fun _ _ => rfl)) (pe_ix ix_tup (pv 0) pe_int (fun _ _ => rfl)) (nomark _)) (pe_and (pe_cmpR op_gt (pv 3) (pe_ix ix_tup (pv 1) pe_int (fun _ _ => rfl)) (nomark _)) (pe_and (pe_cmpR op_ge (pv 3) (pe_op op_mul pe_int (pe_ix ix_tup (pv 0) pe_int (fun _ _ => rfl))) (nomark _)) (pe_one (pe_cmpR op_ge (pv 3) (pe_op op_add (pv 2) (pe_ix ix_tup (pv 0) pe_int (fun _ _ => rfl))) (nomark _)))))))))), ?_⟩
    rw [show L2.start ["ab", "kind", "wait", "sight"] [.ref t, .ref r, .int x, .int v] = [some (.ref t), some (.ref r), some (.int x), some (.int v)] from rfl]
    walk_at "rd"
    refine R.iteD (fun c1 => ?_) (fun c1 => ?_)
    · walk_at "rd"
      exact k1 (fun h => by have := h.1; omega)
    walk_at "rd"
    refine R.iteD (fun c2 => ?_) (fun c2 => ?_)
    · walk_at "rd"
      exact k1 (fun h => by have := h.1; omega)
    walk_at "rd"
    refine R.iteD (fun c3 => ?_) (fun c3 => ?_)
    · walk_at "rd"
      refine R.iteD (fun c4 => ?_) (fun c4 => ?_)
      · walk_at "rd"
        exact k0 ⟨⟨by omega, by omega⟩, .inl ⟨by omega, by omega⟩⟩
      walk_at "rd"
      refine R.iteD (fun d1 => ?_) (fun d1 => ?_)
      · walk_at "rd"
        refine R.iteD (fun d2 => ?_) (fun d2 => ?_)
        · walk_at "rd"
          refine R.iteD (fun d3 => ?_) (fun d3 => ?_)
          · walk_at "rd"
            by_cases d4 : x + a ≤ v
            · rw [decide_eq_true d4]
              exact k0 ⟨⟨by omega, by omega⟩, .inr ⟨by omega, by omega, by omega, by omega⟩⟩
            · rw [decide_eq_false d4]
              exact k1 (fun h => by rcases h.2 with z | z <;> omega)
          · walk_at "rd"
            exact k1 (fun h => by rcases h.2 with z | z <;> omega)
        · walk_at "rd"
          exact k1 (fun h => by rcases h.2 with z | z <;> omega)
      · walk_at "rd"
        exact k1 (fun h => by rcases h.2 with z | z <;> omega)
    walk_at "rd"
    refine R.iteD (fun d1 => ?_) (fun d1 => ?_)
    · walk_at "rd"
      refine R.iteD (fun d2 => ?_) (fun d2 => ?_)
      · walk_at "rd"
        refine R.iteD (fun d3 => ?_) (fun d3 => ?_)
        · walk_at "rd"
          by_cases d4 : x + a ≤ v
          · rw [decide_eq_true d4]
            exact k0 ⟨⟨by omega, by omega⟩, .inr ⟨by omega, by omega, by omega, by omega⟩⟩
          · rw [decide_eq_false d4]
            exact k1 (fun h => by rcases h.2 with z | z <;> omega)
        · walk_at "rd"
          exact k1 (fun h => by rcases h.2 with z | z <;> omega)
      · walk_at "rd"
        exact k1 (fun h => by rcases h.2 with z | z <;> omega)
    · walk_at "rd"
      exact k1 (fun h => by rcases h.2 with z | z <;> omega)

theorem ok_l_number {f : Addr} {fd : FuncData} (F : L2.Fun K "_law_number" "_law_number" s_l_number f fd)
    (z_range : mg "range" = none)
    {f_l_booked : Addr} {fd_l_booked : FuncData} (G_l_booked : FnOk P w K mg base CX0 1 f_l_booked fd_l_booked ["ab", "kind", "wait", "sight"] (sp_l_booked K)) (m_l_booked : mg "_law_booked" = some (.ref f_l_booked)) (k_l_booked : PySem.W.keepIn K (.ref f_l_booked) = true) (b_l_booked : Binds K fd_l_booked ["ab", "kind", "wait", "sight"] [])
    {f_l_wait : Addr} {fd_l_wait : FuncData} (G_l_wait : FnOk P w K mg base CX0 1 f_l_wait fd_l_wait ["ab", "w"] (sp_l_wait K)) (m_l_wait : mg "_law_wait" = some (.ref f_l_wait)) (k_l_wait : PySem.W.keepIn K (.ref f_l_wait) = true) (b_l_wait : Binds K fd_l_wait ["ab", "w"] []) :
    FnOk P w K mg base CX0 2 f fd ["ab", "kind"] (sp_l_number K) := by
  refine F.ok sc_l_number (fun vs H Q E h => ?_) (fun cdv A outer s H vs Q E hr h => ?_)
  · obtain ⟨t, r, a, b, k, rfl, _⟩ := h
    rfl
  · obtain ⟨t, r, a, b, k, rfl, ht, hq, h1, h2, h3, w1, w2, q⟩ := h
    refine ⟨_, (pss_cons (ps_set (i := 2) sc_l_number.nd rfl (by first | exact Or.inl rfl | exact Or.inr rfl) (pe_call G_l_wait (hr.mono (by decide)) (by rfl) m_l_wait k_l_wait b_l_wait .nil pass0 (pa_cons (pv 0) (pa_cons (pe_ix ix_tup (pv 1) pe_int (fun _ _ => rfl)) pa_nil))))
      (pss_cons (ps_for PassesOwn.never rfl (pi_range2 (by rfl) z_range (pa_cons pe_int (pa_cons pe_int pa_nil))) (pg_name (i := 3) sc_l_number.nd rfl (by first | exact Or.inl rfl | exact Or.inr rfl))
      (pss_one (ps_if (pt_val (pe_call G_l_booked (hr.mono (by decide)) (by rfl) m_l_booked k_l_booked b_l_booked .nil pass0 (pa_cons (pv 0) (pa_cons (pv 1) (pa_cons (pv 2) (pa_cons (pv 3) pa_nil))))))
      (pss_one (ps_ret (pv 3)))
      pss_nil)))
      (pss_one (ps_ret pe_int)))), ?_⟩
    rw [show L2.start ["ab", "kind", "wait", "sight"] [.ref t, .ref r] = [some (.ref t), some (.ref r), none, none] from rfl]
    walk_at "rd"
    refine ⟨t, a, b, _, rfl, ht, h1, h2, h3, w1, w2, ?_⟩
    walk_at "rd"
    refine R.forR (fun i σ H' => ∃ y, σ = [some (.ref t), some (.ref r), some (.int (ldd a b k.1)), y] ∧ H' = H ∧ ∀ u : Int, 1 ≤ u → u < 1 + i → ¬ BkB a b u k) ⟨none, rfl, rfl, fun u u1 u2 => by omega⟩ ?_ ?_
    · rintro i σ H1 hi ⟨y, rfl, rfl, nb⟩
      walk_at "rd"
      refine ⟨t, r, a, b, _, _, k, rfl, ht, hq, h1, h2, h3, rfl, fun yes => ?_, fun no => ?_⟩
      · walk_at "rd"
        rw [num_is h1 h2 yes nb h3 w1] at q
        exact q
      · walk_at "rd"
        refine ⟨_, rfl, rfl, fun u u1 u2 => ?_⟩
        by_cases c : u = 1 + (i : Int)
        · rw [c]
          exact no
        · exact nb u u1 (by omega)
    · rintro σ H1 ⟨y, rfl, rfl, nb⟩
      walk_at "rd"
      rw [num_no h1 h2 (fun u u1 u2 => nb u u1 (by omega)) h3 w1] at q
      exact q

theorem ok_l_drawn {f : Addr} {fd : FuncData} (F : L2.Fun K "_law_drawn" "_law_drawn" s_l_drawn f fd)
    (z_max : mg "max" = none)
    (z_min : mg "min" = none)
    (z_range : mg "range" = none)
    {f_l_kinds : Addr} {fd_l_kinds : FuncData} (G_l_kinds : FnOk P w K mg base CX0 2 f_l_kinds fd_l_kinds ["pool", "most", "peak", "need"] sp_l_kinds) (m_l_kinds : mg "_law_kinds" = some (.ref f_l_kinds)) (k_l_kinds : PySem.W.keepIn K (.ref f_l_kinds) = true) (b_l_kinds : Binds K fd_l_kinds ["pool", "most", "peak", "need"] [])
    {f_l_sound_kinds : Addr} {fd_l_sound_kinds : FuncData} (G_l_sound_kinds : FnOk P w K mg base CX0 3 f_l_sound_kinds fd_l_sound_kinds ["pool", "ab", "most", "peak", "need"] (sp_l_sound_kinds K)) (m_l_sound_kinds : mg "_law_sound_kinds" = some (.ref f_l_sound_kinds)) (k_l_sound_kinds : PySem.W.keepIn K (.ref f_l_sound_kinds) = true) (b_l_sound_kinds : Binds K fd_l_sound_kinds ["pool", "ab", "most", "peak", "need"] [])
    {f_l_take : Addr} {fd_l_take : FuncData} (G_l_take : FnOk P w K mg base CX0 1 f_l_take fd_l_take ["pool", "size"] sp_l_take) (m_l_take : mg "_law_take" = some (.ref f_l_take)) (k_l_take : PySem.W.keepIn K (.ref f_l_take) = true) (b_l_take : Binds K fd_l_take ["pool", "size"] [])
    {f_l_wait : Addr} {fd_l_wait : FuncData} (G_l_wait : FnOk P w K mg base CX0 1 f_l_wait fd_l_wait ["ab", "w"] (sp_l_wait K)) (m_l_wait : mg "_law_wait" = some (.ref f_l_wait)) (k_l_wait : PySem.W.keepIn K (.ref f_l_wait) = true) (b_l_wait : Binds K fd_l_wait ["ab", "w"] []) :
    FnOk P w K mg base CX0 4 f fd ["pool", "ab"] (sp_l_drawn K) := by
  refine F.ok sc_l_drawn (fun vs H Q E h => ?_) (fun cdv A outer s H vs Q E hr h => ?_)
  · obtain ⟨p, t, a, b, rfl, _⟩ := h
    rfl
  · obtain ⟨p, t, a, b, rfl, hP, ht, h1, h2, h3, q⟩ := h
    refine ⟨_, (pss_cons (ps_set (i := 2) sc_l_drawn.nd rfl (by first | exact Or.inl rfl | exact Or.inr rfl) (pe_call G_l_take (hr.mono (by decide)) (by rfl) m_l_take k_l_take b_l_take .nil pass0 (pa_cons (pv 0) (pa_cons pe_int pa_nil))))
      (pss_cons (ps_if (pt_cmpR op_eq (pv 2) pe_int (nomark _))
      (pss_one (ps_ret (pe_call G_l_sound_kinds (hr.mono (by decide)) (by rfl) m_l_sound_kinds k_l_sound_kinds b_l_sound_kinds .nil pass0 (pa_cons (pv 0) (pa_cons (pv 1) (pa_cons pe_int (pa_cons pe_int (pa_cons pe_int pa_nil))))))))
      pss_nil)
      (pss_cons (ps_if (pt_cmpR op_eq (pv 2) pe_int (nomark _))
      (pss_one (ps_ret (pe_call G_l_kinds (hr.mono (by decide)) (by rfl) m_l_kinds k_l_kinds b_l_kinds .nil pass0 (pa_cons (pv 0) (pa_cons pe_int (pa_cons pe_int (pa_cons (pe_ix ix_list (pe_lst (pa_cons pe_int (pa_cons pe_int pa_nil))) (pe_call G_l_take (hr.mono (by decide)) (by rfl) m_l_take k_l_take b_l_take .nil pass0 (pa_cons (pv 0) (pa_cons pe_int pa_nil))) (fun _ _ => rfl)) pa_nil)))))))
      pss_nil)
      (pss_cons (ps_set (i := 3) sc_l_drawn.nd rfl (by first | exact Or.inl rfl | exact Or.inr rfl) (pe_lst pa_nil))
      (pss_cons (ps_for PassesOwn.never rfl (pi_range1 (by rfl) z_range (pa_cons (pe_call G_l_take (hr.mono (by decide)) (by rfl) m_l_take k_l_take b_l_take .nil pass0 (pa_cons (pv 0) (pa_cons pe_int pa_nil))) pa_nil)) (pg_name (i := 4) sc_l_drawn.nd rfl (by first | exact Or.inl rfl | exact Or.inr rfl))
      (pss_one (ps_if (pt_cmpR op_eq (pv 2) pe_int (nomark _))
      (pss_cons (ps_set (i := 5) sc_l_drawn.nd rfl (by first | exact Or.inl rfl | exact Or.inr rfl) (pe_op op_add pe_int (pe_call G_l_take (hr.mono (by decide)) (by rfl) m_l_take k_l_take b_l_take .nil pass0 (pa_cons (pv 0) (pa_cons (pe_op op_sub (pe_ix ix_tup (pv 1) pe_int (fun _ _ => rfl)) (pe_ix ix_tup (pv 1) pe_int (fun _ _ => rfl))) pa_nil)))))
      (pss_one (ps_expr (pe_bm PySem.F.plainAttrs_list PySem.F.slot_list_append PySem.F.type_list_append mt_append (pv 3) (pa_cons (pe_tup (pa_cons (pv 5) (pa_cons (pe_op op_add pe_int (pe_call G_l_take (hr.mono (by decide)) (by rfl) m_l_take k_l_take b_l_take .nil pass0 (pa_cons (pv 0) (pa_cons (pe_op op_add (pe_ix ix_tup (pv 1) pe_int (fun _ _ => rfl)) pe_int) pa_nil)))) pa_nil))) pa_nil)))))
      (pss_cons (ps_set (i := 5) sc_l_drawn.nd rfl (by first | exact Or.inl rfl | exact Or.inr rfl) (pe_op op_add pe_int (pe_call G_l_take (hr.mono (by decide)) (by rfl) m_l_take k_l_take b_l_take .nil pass0 (pa_cons (pv 0) (pa_cons (pe_ix ix_tup (pv 1) pe_int (fun _ _ => rfl)) pa_nil)))))
      (pss_one (ps_expr (pe_bm PySem.F.plainAttrs_list PySem.F.slot_list_append PySem.F.type_list_append mt_append (pv 3) (pa_cons (pe_tup (pa_cons (pv 5) (pa_cons (pe_callB (OW.c_max2 rfl) (by rfl) z_max (by decide +kernel) (pa_cons pe_int (pa_cons (pe_callB (OW.c_min2 rfl) (by rfl) z_min (by decide +kernel) (pa_cons pe_int (pa_cons (pe_op op_add (pe_call G_l_wait (hr.mono (by decide)) (by rfl) m_l_wait k_l_wait b_l_wait .nil pass0 (pa_cons (pv 1) (pa_cons (pv 5) pa_nil))) (pe_call G_l_take (hr.mono (by decide)) (by rfl) m_l_take k_l_take b_l_take .nil pass0 (pa_cons (pv 0) (pa_cons pe_int pa_nil)))) pa_nil))) pa_nil))) pa_nil))) pa_nil))))))))
      (pss_one (ps_ret (pv 3)))))))), ?_⟩
    rw [show L2.start ["pool", "ab", "way", "kinds", "k", "w"] [.ref p, .ref t] = [some (.ref p), some (.ref t), none, none, none, none] from rfl]
    walk_at "rd"
    refine ⟨p, _, rfl, hP, by omega, by omega, fun way H1 e0 e1 hP1 c1 => ?_⟩
    have ht1 := TK.chg c1 hP _ _ ht
    walk_at "rd"
    refine R.iteD (fun c0 => ?_) (fun c0 => ?_)
    · walk_at "rd"
      refine ⟨p, t, a, b, _, _, _, rfl, hP1, ht1, h1, h2, h3, by omega, by omega, by omega, by omega, by omega, by omega, fun l ks H2 dr kl bd _ => ?_⟩
      exact q l ks H2 (dr.from c1 hP1) (by omega) (bd.good (by omega) (by omega))
    walk_at "rd"
    refine R.iteD (fun c2 => ?_) (fun c2 => ?_)
    · walk_at "rd"
      intro l hl
      have hPl := hP1.keep (same_upd (o := .lst [V.int 12, V.int 120]) hl)
      have cl := c1.new (o := .lst [V.int 12, V.int 120]) hl hP1.some
      walk_at "rd"
      refine ⟨p, _, rfl, hPl, by omega, by omega, fun d H2 e2 e3 hP2 c2 => ?_⟩
      have hl2 := c2 _ _ (hP1.ne hl) upd_same
      obtain ⟨need, hn1, hn2, hat⟩ : ∃ n : Int, 1 ≤ n ∧ n ≤ 120 ∧ atI [V.int 12, V.int 120] d = some (.int n) := by
        have : d = 0 ∨ d = 1 := by omega
        rcases this with rfl | rfl
        · exact ⟨12, by decide, by decide, rfl⟩
        · exact ⟨120, by decide, by decide, rfl⟩
      walk_at "rd"
      refine ⟨p, _, _, _, rfl, hP2, by omega, by omega, by omega, by omega, by omega, by omega, fun r ks H3 dr kl bd => ?_⟩
      exact q r ks H3 (dr.from (cl.trans c2) hP2) (by omega) (bd.good (by omega) (by omega))
    walk_at "rd"
    intro l hl
    have la := hP1.ne hl
    have hPl := hP1.keep (same_upd (o := .lst []) hl)
    walk_at "rd"
    refine ⟨p, _, rfl, hPl, by omega, by omega, fun n H2 e0 e1 hP2 c2 => ?_⟩
    walk_at "rd"
    refine R.forR (fun i σ H' => ∃ v w, σ = [some (.ref p), some (.ref t), some (.int way), some (.ref l), v, w] ∧ ∃ ks : List (Int × Int), DrawnAt p H1 H' l ks ∧ ks.length = i ∧ Bnd ks 16 120) ⟨none, none, rfl, [], ⟨[], hl, la, c2 _ _ la upd_same, .nil, hP2, ?_⟩, rfl, fun k hk => by simp at hk⟩ ?_ ?_
    · exact fun b o nb e => c2 b o nb (by rw [upd_ne (ne_of_none e hl)]; exact e)
    · rintro i σ H3 hi ⟨v, w, rfl, ks, ⟨ys, _, _, g1, g2, hP3, c3⟩, kl, bd⟩
      have ysz : ys.length < sizeLine := Nat.lt_of_le_of_lt (m := 300) (by have := g2.len; omega) (by decide)
      have ht3 := TK.chg c3 hP1 _ _ ht1
      walk_at "rd"
      refine R.iteD (fun c4 => ?_) (fun c4 => ?_)
      · walk_at "rd"
        refine ⟨p, _, rfl, hP3, by omega, by omega, fun d H4 e2 e3 hP4 c4 => ?_⟩
        have g3 := c4 _ _ la g1
        have ht4 := TK.chg c4 hP3 _ _ ht3
        walk_at "rd"
        refine ⟨p, _, rfl, hP4, by omega, by omega, fun d2 H5 e4 e5 hP5 c5 => ?_⟩
        walk_at "rd"
        intro r hr
        obtain ⟨z1, z2⟩ := DrawnAt.push (w := 1 + d) (g := 1 + d2) hl la g1 g2 hP3 c3 (c4.trans c5) hP5 hr
        walk_at "rd"
        exact ⟨_, _, rfl, _, z2, by simp [kl], bd.snoc (by omega) (by omega) (by omega) (by omega)⟩
      · walk_at "rd"
        refine ⟨p, _, rfl, hP3, by omega, by omega, fun d H4 e2 e3 hP4 c4 => ?_⟩
        have g3 := c4 _ _ la g1
        have ht4 := TK.chg c4 hP3 _ _ ht3
        have l0 := ldd_nn (w := 1 + d) h1 h2 (by omega)
        walk_at "rd"
        refine ⟨t, a, b, _, rfl, ht4, h1, h2, h3, by omega, by omega, ?_⟩
        walk_at "rd"
        refine ⟨p, _, rfl, hP4, by omega, by omega, fun d2 H5 e4 e5 hP5 c5 => ?_⟩
        walk_at "rd"
        rw [min_py, max_py]
        intro r hr
        obtain ⟨z1, z2⟩ := DrawnAt.push (w := 1 + d) (g := max 1 (min 120 (ldd a b (1 + d) + d2))) hl la g1 g2 hP3 c3 (c4.trans c5) hP5 hr
        walk_at "rd"
        exact ⟨_, _, rfl, _, z2, by simp [kl], bd.snoc (by omega) (by omega) (by omega) (by omega)⟩
    · rintro σ H3 ⟨v, w, rfl, ks, g1, kl, bd⟩
      walk_at "rd"
      exact q l ks H3 (g1.from c1 hP1) (by omega) (bd.good (by omega) (by omega))

theorem ok_l_ahead {f : Addr} {fd : FuncData} (F : L2.Fun K "_law_ahead" "_law_ahead" s_l_ahead f fd)
    (z_min : mg "min" = none)
    {f_l_number : Addr} {fd_l_number : FuncData} (G_l_number : FnOk P w K mg base CX0 2 f_l_number fd_l_number ["ab", "kind"] (sp_l_number K)) (m_l_number : mg "_law_number" = some (.ref f_l_number)) (k_l_number : PySem.W.keepIn K (.ref f_l_number) = true) (b_l_number : Binds K fd_l_number ["ab", "kind"] [])
    {f_l_take : Addr} {fd_l_take : FuncData} (G_l_take : FnOk P w K mg base CX0 1 f_l_take fd_l_take ["pool", "size"] sp_l_take) (m_l_take : mg "_law_take" = some (.ref f_l_take)) (k_l_take : PySem.W.keepIn K (.ref f_l_take) = true) (b_l_take : Binds K fd_l_take ["pool", "size"] [])
    {f_l_wait : Addr} {fd_l_wait : FuncData} (G_l_wait : FnOk P w K mg base CX0 1 f_l_wait fd_l_wait ["ab", "w"] (sp_l_wait K)) (m_l_wait : mg "_law_wait" = some (.ref f_l_wait)) (k_l_wait : PySem.W.keepIn K (.ref f_l_wait) = true) (b_l_wait : Binds K fd_l_wait ["ab", "w"] []) :
    FnOk P w K mg base CX0 3 f fd ["pool", "ab"] (sp_l_ahead K) := by
  refine F.ok sc_l_ahead (fun vs H Q E h => ?_) (fun cdv A outer s H vs Q E hr h => ?_)
  · obtain ⟨p, t, a, b, rfl, _⟩ := h
    rfl
  · obtain ⟨p, t, a, b, rfl, hP, ht, h1, h2, h3, q⟩ := h
    refine ⟨_, (pss_cons (ps_set (i := 2) sc_l_ahead.nd rfl (by first | exact Or.inl rfl | exact Or.inr rfl) (pe_call G_l_take (hr.mono (by decide)) (by rfl) m_l_take k_l_take b_l_take .nil pass0 (pa_cons (pv 0) (pa_cons pe_int pa_nil))))
      (pss_cons (ps_if (pt_cmpR op_eq (pv 2) pe_int (nomark _))
      (pss_one (ps_ret (pe_call G_l_take (hr.mono (by decide)) (by rfl) m_l_take k_l_take b_l_take .nil pass0 (pa_cons (pv 0) (pa_cons pe_int pa_nil)))))
      pss_nil)
      (pss_cons (ps_if (pt_cmpR op_eq (pv 2) pe_int (nomark _))
      (pss_one (ps_ret (pe_call G_l_take (hr.mono (by decide)) (by rfl) m_l_take k_l_take b_l_take .nil pass0 (pa_cons (pv 0) (pa_cons pe_int pa_nil)))))
      pss_nil)
      (pss_cons (ps_if (pt_cmpR op_eq (pv 2) pe_int (nomark _))
      (pss_one (ps_ret (pe_call G_l_take (hr.mono (by decide)) (by rfl) m_l_take k_l_take b_l_take .nil pass0 (pa_cons (pv 0) (pa_cons (pe_ix ix_tup (pv 1) pe_int (fun _ _ => rfl)) pa_nil)))))
      pss_nil)
      (pss_cons (ps_if (pt_cmpR op_eq (pv 2) pe_int (nomark _))
      (pss_one (ps_ret (pe_op op_sub (pe_op op_sub pe_int pe_int) (pe_call G_l_take (hr.mono (by decide)) (by rfl) m_l_take k_l_take b_l_take .nil pass0 (pa_cons (pv 0) (pa_cons pe_int pa_nil))))))
      pss_nil)
      (pss_cons (ps_set (i := 3) sc_l_ahead.nd rfl (by first | exact Or.inl rfl | exact Or.inr rfl) (pe_op op_add pe_int (pe_call G_l_take (hr.mono (by decide)) (by rfl) m_l_take k_l_take b_l_take .nil pass0 (pa_cons (pv 0) (pa_cons (pe_op op_sub (pe_ix ix_tup (pv 1) pe_int (fun _ _ => rfl)) pe_int) pa_nil)))))
      (pss_cons (ps_set (i := 4) sc_l_ahead.nd rfl (by first | exact Or.inl rfl | exact Or.inr rfl) (pe_callB (OW.c_min2 rfl) (by rfl) z_min (by decide +kernel) (pa_cons pe_int (pa_cons (pe_op op_add (pe_op op_add (pe_call G_l_wait (hr.mono (by decide)) (by rfl) m_l_wait k_l_wait b_l_wait .nil pass0 (pa_cons (pv 1) (pa_cons (pv 3) pa_nil))) pe_int) (pe_call G_l_take (hr.mono (by decide)) (by rfl) m_l_take k_l_take b_l_take .nil pass0 (pa_cons (pv 0) (pa_cons (pe_op op_add (pe_ix ix_tup (pv 1) pe_int (fun _ _ => rfl)) pe_int) pa_nil)))) pa_nil))))
      (pss_one (ps_ret (pe_op op_sub (pe_call G_l_number (hr.mono (by decide)) (by rfl) m_l_number k_l_number b_l_number .nil pass0 (pa_cons (pv 1) (pa_cons (pe_tup (pa_cons (pv 3) (pa_cons (pv 4) pa_nil))) pa_nil))) (pe_call G_l_take (hr.mono (by decide)) (by rfl) m_l_take k_l_take b_l_take .nil pass0 (pa_cons (pv 0) (pa_cons pe_int pa_nil))))))))))))), ?_⟩
    rw [show L2.start ["pool", "ab", "way", "w", "stretch"] [.ref p, .ref t] = [some (.ref p), some (.ref t), none, none, none] from rfl]
    walk_at "rd"
    refine ⟨p, _, rfl, hP, by omega, by omega, fun way H1 e0 e1 hP1 c1 => ?_⟩
    have ht1 := TK.chg c1 hP _ _ ht
    walk_at "rd"
    refine R.iteD (fun c => ?_) (fun c => ?_)
    · walk_at "rd"
      refine ⟨p, _, rfl, hP1, by omega, by omega, fun d H2 e2 e3 hP2 c2 => ?_⟩
      exact q d H2 (by omega) (by omega) hP2 (c1.trans c2)
    walk_at "rd"
    refine R.iteD (fun c => ?_) (fun c => ?_)
    · walk_at "rd"
      refine ⟨p, _, rfl, hP1, by omega, by omega, fun d H2 e2 e3 hP2 c2 => ?_⟩
      exact q d H2 (by omega) (by omega) hP2 (c1.trans c2)
    walk_at "rd"
    refine R.iteD (fun c => ?_) (fun c => ?_)
    · walk_at "rd"
      refine ⟨p, _, rfl, hP1, by omega, by omega, fun d H2 e2 e3 hP2 c2 => ?_⟩
      exact q d H2 (by omega) (by omega) hP2 (c1.trans c2)
    walk_at "rd"
    refine R.iteD (fun c => ?_) (fun c => ?_)
    · walk_at "rd"
      refine ⟨p, _, rfl, hP1, by omega, by omega, fun d H2 e2 e3 hP2 c2 => ?_⟩
      walk_at "rd"
      exact q _ H2 (by omega) (by omega) hP2 (c1.trans c2)
    walk_at "rd"
    refine ⟨p, _, rfl, hP1, by omega, by omega, fun d H2 e2 e3 hP2 c2 => ?_⟩
    have ht2 := TK.chg c2 hP1 _ _ ht1
    obtain ⟨l0, l1⟩ := ldd_small (w := 1 + d) h1 h2 h3 (by omega) (by omega)
    walk_at "rd"
    refine ⟨t, a, b, _, rfl, ht2, h1, h2, h3, by omega, by omega, ?_⟩
    walk_at "rd"
    refine ⟨p, _, rfl, hP2, by omega, by omega, fun d2 H3 e4 e5 hP3 c3 => ?_⟩
    have ht3 := TK.chg c3 hP2 _ _ ht2
    walk_at "rd"
    rw [min_py]
    intro r hr
    have n4 := same_upd (o := .tup [V.int (1 + d), V.int (min 120 (ldd a b (1 + d) + 1 + d2))]) hr
    have ht4 := n4 _ _ ht3
    have hP4 := hP3.keep n4
    walk_at "rd"
    refine ⟨t, r, a, b, (1 + d, min 120 (ldd a b (1 + d) + 1 + d2)), rfl, ht4, upd_same, h1, h2, h3, by show 1 ≤ 1 + d; omega, by show 1 + d ≤ 1000; omega, ?_⟩
    obtain ⟨m0, m1⟩ := num_small (k := (1 + d, min 120 (ldd a b (1 + d) + 1 + d2))) h1 h2 h3 (by show 1 ≤ 1 + d; omega)
    walk_at "rd"
    refine ⟨p, _, rfl, hP4, by omega, by omega, fun d3 H5 e6 e7 hP5 c5 => ?_⟩
    walk_at "rd"
    exact q _ H5 (by omega) (by omega) hP5 ((((c1.trans c2).trans c3).new hr hP3.some).trans c5)

theorem ok_l_odd {f : Addr} {fd : FuncData} (F : L2.Fun K "_law_odd" "_law_odd" s_l_odd f fd)
    {f_l_take : Addr} {fd_l_take : FuncData} (G_l_take : FnOk P w K mg base CX0 1 f_l_take fd_l_take ["pool", "size"] sp_l_take) (m_l_take : mg "_law_take" = some (.ref f_l_take)) (k_l_take : PySem.W.keepIn K (.ref f_l_take) = true) (b_l_take : Binds K fd_l_take ["pool", "size"] []) :
    FnOk P w K mg base CX0 2 f fd ["pool"] sp_l_odd := by
  refine F.ok sc_l_odd (fun vs H Q E h => ?_) (fun cdv A outer s H vs Q E hr h => ?_)
  · obtain ⟨p, rfl, _⟩ := h
    rfl
  · obtain ⟨p, rfl, hP, q⟩ := h
    refine ⟨_, (pss_cons (ps_set (i := 1) sc_l_odd.nd rfl (by first | exact Or.inl rfl | exact Or.inr rfl) (pe_call G_l_take (hr.mono (by decide)) (by rfl) m_l_take k_l_take b_l_take .nil pass0 (pa_cons (pv 0) (pa_cons pe_int pa_nil))))
      (pss_cons (ps_if (pt_cmpR op_eq (pv 1) pe_int (nomark _))
      (pss_one (ps_ret (pe_tup (pa_cons (pe_op op_sub pe_int (pe_call G_l_take (hr.mono (by decide)) (by rfl) m_l_take k_l_take b_l_take .nil pass0 (pa_cons (pv 0) (pa_cons pe_int pa_nil)))) (pa_cons (pe_op op_add pe_int (pe_call G_l_take (hr.mono (by decide)) (by rfl) m_l_take k_l_take b_l_take .nil pass0 (pa_cons (pv 0) (pa_cons pe_int pa_nil)))) pa_nil)))))
      pss_nil)
      (pss_cons (ps_if (pt_cmpR op_eq (pv 1) pe_int (nomark _))
      (pss_one (ps_ret (pe_tup (pa_cons (pe_op op_add pe_int (pe_call G_l_take (hr.mono (by decide)) (by rfl) m_l_take k_l_take b_l_take .nil pass0 (pa_cons (pv 0) (pa_cons pe_int pa_nil)))) (pa_cons (pe_op op_add pe_int (pe_call G_l_take (hr.mono (by decide)) (by rfl) m_l_take k_l_take b_l_take .nil pass0 (pa_cons (pv 0) (pa_cons pe_int pa_nil)))) pa_nil)))))
      pss_nil)
      (pss_cons (ps_if (pt_cmpR op_eq (pv 1) pe_int (nomark _))
      (pss_one (ps_ret (pe_tup (pa_cons (pe_op op_add pe_int (pe_call G_l_take (hr.mono (by decide)) (by rfl) m_l_take k_l_take b_l_take .nil pass0 (pa_cons (pv 0) (pa_cons pe_int pa_nil)))) (pa_cons (pe_op op_sub pe_int (pe_call G_l_take (hr.mono (by decide)) (by rfl) m_l_take k_l_take b_l_take .nil pass0 (pa_cons (pv 0) (pa_cons pe_int pa_nil)))) pa_nil)))))
      pss_nil)
      (pss_one (ps_ret (pe_tup (pa_cons (pe_op op_add pe_int (pe_call G_l_take (hr.mono (by decide)) (by rfl) m_l_take k_l_take b_l_take .nil pass0 (pa_cons (pv 0) (pa_cons pe_int pa_nil)))) (pa_cons (pe_op op_add pe_int (pe_call G_l_take (hr.mono (by decide)) (by rfl) m_l_take k_l_take b_l_take .nil pass0 (pa_cons (pv 0) (pa_cons pe_int pa_nil)))) pa_nil))))))))), ?_⟩
    rw [show L2.start ["pool", "way"] [.ref p] = [some (.ref p), none] from rfl]
    walk_at "rd"
    refine ⟨p, _, rfl, hP, by omega, by omega, fun way H1 e0 e1 hP1 c1 => ?_⟩
    walk_at "rd"
    refine R.iteD (fun c => ?_) (fun c => ?_)
    · walk_at "rd"
      refine ⟨p, _, rfl, hP1, by omega, by omega, fun d H2 e2 e3 hP2 c2 => ?_⟩
      walk_at "rd"
      refine ⟨p, _, rfl, hP2, by omega, by omega, fun d2 H3 e4 e5 hP3 c3 => ?_⟩
      walk_at "rd"
      intro t ht
      exact odd_end hP hP3 ((c1.trans c2).trans c3) ht ⟨⟨by omega, by omega⟩, ⟨by omega, by omega⟩, by omega⟩ q
    walk_at "rd"
    refine R.iteD (fun c => ?_) (fun c => ?_)
    · walk_at "rd"
      refine ⟨p, _, rfl, hP1, by omega, by omega, fun d H2 e2 e3 hP2 c2 => ?_⟩
      walk_at "rd"
      refine ⟨p, _, rfl, hP2, by omega, by omega, fun d2 H3 e4 e5 hP3 c3 => ?_⟩
      walk_at "rd"
      intro t ht
      exact odd_end hP hP3 ((c1.trans c2).trans c3) ht ⟨⟨by omega, by omega⟩, ⟨by omega, by omega⟩, by omega⟩ q
    walk_at "rd"
    refine R.iteD (fun c => ?_) (fun c => ?_)
    · walk_at "rd"
      refine ⟨p, _, rfl, hP1, by omega, by omega, fun d H2 e2 e3 hP2 c2 => ?_⟩
      walk_at "rd"
      refine ⟨p, _, rfl, hP2, by omega, by omega, fun d2 H3 e4 e5 hP3 c3 => ?_⟩
      walk_at "rd"
      intro t ht
      exact odd_end hP hP3 ((c1.trans c2).trans c3) ht ⟨⟨by omega, by omega⟩, ⟨by omega, by omega⟩, by omega⟩ q
    walk_at "rd"
    refine ⟨p, _, rfl, hP1, by omega, by omega, fun d H2 e2 e3 hP2 c2 => ?_⟩
    walk_at "rd"
    refine ⟨p, _, rfl, hP2, by omega, by omega, fun d2 H3 e4 e5 hP3 c3 => ?_⟩
    walk_at "rd"
    intro t ht
    exact odd_end hP hP3 ((c1.trans c2).trans c3) ht ⟨⟨by omega, by omega⟩, ⟨by omega, by omega⟩, by omega⟩ q

theorem ok_l_no_kind {f : Addr} {fd : FuncData} (F : L2.Fun K "_law_no_kind" "_law_no_kind" s_l_no_kind f fd)
    {C_BadKind : Addr} (T_BadKind : S_BadKind K mg C_BadKind)
    {C_DampError : Addr} (T_DampError : S_DampError K mg C_DampError)
    {C_Lacquer : Addr} (T_Lacquer : S_Lacquer K mg C_Lacquer)
    {C_TooLarge : Addr} (T_TooLarge : S_TooLarge K mg C_TooLarge)
    (z_ValueError : mg "ValueError" = none)
    (z_isinstance : mg "isinstance" = none)
    (kit_BadKind_DampError : PySem.W.kitOne K (.ref C_BadKind) (.ref C_DampError) = some true)
    (kit_BadKind_TooLarge : PySem.W.kitOne K (.ref C_BadKind) (.ref C_TooLarge) = some false)
    (kit_BadKind_ValueError : PySem.W.kitOne K (.ref C_BadKind) (.type "ValueError") = some true)
    {f_f_kind_booking : Addr} {fd_f_kind_booking : FuncData} (G_f_kind_booking : FnOk P w K mg base (L2.CX P w) 6 f_f_kind_booking fd_f_kind_booking ["lacquer", "w", "g"] (sp_f_kind_booking K C_Lacquer C_BadKind)) (m_f_kind_booking : mg "kind_booking" = some (.ref f_f_kind_booking)) (k_f_kind_booking : PySem.W.keepIn K (.ref f_f_kind_booking) = true) (b_f_kind_booking : Binds K fd_f_kind_booking ["lacquer", "w", "g"] []) :
    FnOk P w K mg base CX0 7 f fd ["lacquer", "odd"] (sp_l_no_kind C_Lacquer) := by
  refine F.ok sc_l_no_kind (fun vs H Q E h => ?_) (fun cdv A outer s H vs Q E hr h => ?_)
  · obtain ⟨p, t, a, b, x, y, rfl, _⟩ := h
    rfl
  · obtain ⟨p, t, a, b, x, y, rfl, hp, h1, h2, h3, ht, ho, q⟩ := h
    refine ⟨_, (pss_cons (ps_set (i := 2) sc_l_no_kind.nd rfl (by first | exact Or.inl rfl | exact Or.inr rfl) pe_bl)
      (pss_cons (ps_set (i := 3) sc_l_no_kind.nd rfl (by first | exact Or.inl rfl | exact Or.inr rfl) pe_bl)
      (pss_cons (ps_try_as (i := 4) rfl rfl sc_l_no_kind.nd rfl rfl ⟨rfl, by decide, (.inl T_BadKind.mg)⟩ takes0
      (fun W pn xe tk _ => (pss_one (ps_expr (pe_callS G_f_kind_booking (hr.mono (by decide)) (by rfl) m_f_kind_booking k_f_kind_booking b_f_kind_booking (fun σ => passAt tk σ) (pa_cons (pv 0) (pa_cons (pe_ix (OW.ix_tupK (K := K) rfl) (pv 1) pe_int (fun _ _ => rfl)) (pa_cons (pe_ix (OW.ix_tupK (K := K) rfl) (pv 1) pe_int (fun _ _ => rfl)) pa_nil)))))))
      (fun a oe cls d pn hz hf => (pss_cons (ps_set (i := 2) sc_l_no_kind.nd rfl (by first | exact Or.inl rfl | exact Or.inr rfl) pe_bl)
      (pss_one (ps_set (i := 3) sc_l_no_kind.nd rfl (by first | exact Or.inl rfl | exact Or.inr rfl) (pe_and (pe_callB (OW.c_isEE hz hf) (by rfl) z_isinstance (by decide +kernel) (pa_cons (pv 4) (pa_cons (C8.pe_gc (v := .ref C_DampError) (by rfl) ⟨_, T_DampError.mg, rfl⟩) pa_nil))) (pe_and (pe_callB (OW.c_isEE hz hf) (by rfl) z_isinstance (by decide +kernel) (pa_cons (pv 4) (pa_cons (pe_bltn (v := .ty "ValueError") (by rfl) z_ValueError (by decide +kernel) rfl) pa_nil))) (pe_one (pe_not (pe_callB (OW.c_isEE hz hf) (by rfl) z_isinstance (by decide +kernel) (pa_cons (pv 4) (pa_cons (C8.pe_gc (v := .ref C_TooLarge) (by rfl) ⟨_, T_TooLarge.mg, rfl⟩) pa_nil))))))))))))
      (pss_one (ps_ret (pe_and (pv 2) (pe_one (pv 3)))))))), ?_⟩
    rw [show L2.start ["lacquer", "odd", "refused", "kin", "e"] [.ref p, .ref t] = [some (.ref p), some (.ref t), none, none, none] from rfl]
    -- kit_BadKind_DampError kit_BadKind_ValueError kit_BadKind_TooLarge
    walk_at "rd"
    refine ⟨p, a, b, x, y, rfl, hp, h1, h2, h3, ho.1, ho.2.1, fun _ => ?_, fun h => absurd h ho.2.2⟩
    refine ⟨true, T_BadKind.te, fun _ a ha => ?_, fun e => Bool.noConfusion e⟩
    walk_at "rd"
    exact q

theorem ok_l_no_sight {f : Addr} {fd : FuncData} (F : L2.Fun K "_law_no_sight" "_law_no_sight" s_l_no_sight f fd)
    {C_BadNumber : Addr} (T_BadNumber : S_BadNumber K mg C_BadNumber)
    {C_Climate : Addr} (T_Climate : S_Climate K mg C_Climate)
    {C_DampError : Addr} (T_DampError : S_DampError K mg C_DampError)
    {C_Lacquer : Addr} (T_Lacquer : S_Lacquer K mg C_Lacquer)
    {C_TooLarge : Addr} (T_TooLarge : S_TooLarge K mg C_TooLarge)
    (z_ValueError : mg "ValueError" = none)
    (z_isinstance : mg "isinstance" = none)
    (kit_BadNumber_DampError : PySem.W.kitOne K (.ref C_BadNumber) (.ref C_DampError) = some true)
    (kit_BadNumber_TooLarge : PySem.W.kitOne K (.ref C_BadNumber) (.ref C_TooLarge) = some false)
    (kit_BadNumber_ValueError : PySem.W.kitOne K (.ref C_BadNumber) (.type "ValueError") = some true)
    {f_f_greatest_booked : Addr} {fd_f_greatest_booked : FuncData} (G_f_greatest_booked : FnOk P w K mg base (L2.CX P w) 7 f_f_greatest_booked fd_f_greatest_booked ["lacquer", "sight"] (sp_f_greatest_booked K C_Lacquer C_Climate C_BadNumber)) (m_f_greatest_booked : mg "greatest_booked" = some (.ref f_f_greatest_booked)) (k_f_greatest_booked : PySem.W.keepIn K (.ref f_f_greatest_booked) = true) (b_f_greatest_booked : Binds K fd_f_greatest_booked ["lacquer", "sight"] []) :
    FnOk P w K mg base CX0 8 f fd ["lacquer", "sight"] (sp_l_no_sight C_Lacquer) := by
  refine F.ok sc_l_no_sight (fun vs H Q E h => ?_) (fun cdv A outer s H vs Q E hr h => ?_)
  · obtain ⟨p, a, b, v, rfl, _⟩ := h
    rfl
  · obtain ⟨p, a, b, v, rfl, hp, h1, h2, h3, hv, q⟩ := h
    refine ⟨_, (pss_cons (ps_set (i := 2) sc_l_no_sight.nd rfl (by first | exact Or.inl rfl | exact Or.inr rfl) pe_bl)
      (pss_cons (ps_set (i := 3) sc_l_no_sight.nd rfl (by first | exact Or.inl rfl | exact Or.inr rfl) pe_bl)
      (pss_cons (ps_try_as (i := 4) rfl rfl sc_l_no_sight.nd rfl rfl ⟨rfl, by decide, (.inl T_BadNumber.mg)⟩ takes0
      (fun W pn xe tk _ => (pss_one (ps_expr (pe_callS G_f_greatest_booked (hr.mono (by decide)) (by rfl) m_f_greatest_booked k_f_greatest_booked b_f_greatest_booked (fun σ => passAt tk σ) (pa_cons (pv 0) (pa_cons (pv 1) pa_nil))))))
      (fun a oe cls d pn hz hf => (pss_cons (ps_set (i := 2) sc_l_no_sight.nd rfl (by first | exact Or.inl rfl | exact Or.inr rfl) pe_bl)
      (pss_one (ps_set (i := 3) sc_l_no_sight.nd rfl (by first | exact Or.inl rfl | exact Or.inr rfl) (pe_and (pe_callB (OW.c_isEE hz hf) (by rfl) z_isinstance (by decide +kernel) (pa_cons (pv 4) (pa_cons (C8.pe_gc (v := .ref C_DampError) (by rfl) ⟨_, T_DampError.mg, rfl⟩) pa_nil))) (pe_and (pe_callB (OW.c_isEE hz hf) (by rfl) z_isinstance (by decide +kernel) (pa_cons (pv 4) (pa_cons (pe_bltn (v := .ty "ValueError") (by rfl) z_ValueError (by decide +kernel) rfl) pa_nil))) (pe_one (pe_not (pe_callB (OW.c_isEE hz hf) (by rfl) z_isinstance (by decide +kernel) (pa_cons (pv 4) (pa_cons (C8.pe_gc (v := .ref C_TooLarge) (by rfl) ⟨_, T_TooLarge.mg, rfl⟩) pa_nil))))))))))))
      (pss_one (ps_ret (pe_and (pv 2) (pe_one (pv 3)))))))), ?_⟩
    rw [show L2.start ["lacquer", "sight", "refused", "kin", "e"] [.ref p, .int v] = [some (.ref p), some (.int v), none, none, none] from rfl]
    -- kit_BadNumber_DampError kit_BadNumber_ValueError kit_BadNumber_TooLarge
    walk_at "rd"
    refine ⟨p, a, b, v, rfl, hp, h1, h2, h3, by omega, fun _ => ?_, fun h => absurd h (by omega), fun h => absurd h (by omega)⟩
    refine ⟨true, T_BadNumber.te, fun _ a ha => ?_, fun e => Bool.noConfusion e⟩
    walk_at "rd"
    exact q

theorem ok_l_highest {f : Addr} {fd : FuncData} (F : L2.Fun K "_law_highest" "_law_highest" s_l_highest f fd)
    (z_range : mg "range" = none)
    {f_l_booked : Addr} {fd_l_booked : FuncData} (G_l_booked : FnOk P w K mg base CX0 1 f_l_booked fd_l_booked ["ab", "kind", "wait", "sight"] (sp_l_booked K)) (m_l_booked : mg "_law_booked" = some (.ref f_l_booked)) (k_l_booked : PySem.W.keepIn K (.ref f_l_booked) = true) (b_l_booked : Binds K fd_l_booked ["ab", "kind", "wait", "sight"] [])
    {f_l_plain : Addr} {fd_l_plain : FuncData} (G_l_plain : FnOk P w K mg base CX0 2 f_l_plain fd_l_plain ["kinds"] (sp_l_plain K)) (m_l_plain : mg "_law_plain" = some (.ref f_l_plain)) (k_l_plain : PySem.W.keepIn K (.ref f_l_plain) = true) (b_l_plain : Binds K fd_l_plain ["kinds"] [])
    {f_l_wait : Addr} {fd_l_wait : FuncData} (G_l_wait : FnOk P w K mg base CX0 1 f_l_wait fd_l_wait ["ab", "w"] (sp_l_wait K)) (m_l_wait : mg "_law_wait" = some (.ref f_l_wait)) (k_l_wait : PySem.W.keepIn K (.ref f_l_wait) = true) (b_l_wait : Binds K fd_l_wait ["ab", "w"] []) :
    FnOk P w K mg base CX0 3 f fd ["ab", "sight"] (sp_l_highest K) := by
  refine F.ok sc_l_highest (fun vs H Q E h => ?_) (fun cdv A outer s H vs Q E hr h => ?_)
  · obtain ⟨t, a, b, v, rfl, _⟩ := h
    rfl
  · obtain ⟨t, a, b, v, rfl, ht, h1, h2, h3, q⟩ := h
    refine ⟨_, (pss_cons (ps_set (i := 2) sc_l_highest.nd rfl (by first | exact Or.inl rfl | exact Or.inr rfl) (pe_lst pa_nil))
      (pss_cons (ps_for PassesOwn.never rfl (pi_range2 (by rfl) z_range (pa_cons pe_int (pa_cons (pe_ix ix_tup (pv 0) pe_int (fun _ _ => rfl)) pa_nil))) (pg_name (i := 3) sc_l_highest.nd rfl (by first | exact Or.inl rfl | exact Or.inr rfl))
      (pss_cons (ps_set (i := 4) sc_l_highest.nd rfl (by first | exact Or.inl rfl | exact Or.inr rfl) (pe_call G_l_wait (hr.mono (by decide)) (by rfl) m_l_wait k_l_wait b_l_wait .nil pass0 (pa_cons (pv 0) (pa_cons (pv 3) pa_nil))))
      (pss_one (ps_for PassesOwn.never rfl (pi_range2 (by rfl) z_range (pa_cons (pe_op op_add (pv 4) pe_int) (pa_cons pe_int pa_nil))) (pg_name (i := 5) sc_l_highest.nd rfl (by first | exact Or.inl rfl | exact Or.inr rfl))
      (pss_one (ps_if (pt_val (pe_call G_l_booked (hr.mono (by decide)) (by rfl) m_l_booked k_l_booked b_l_booked .nil pass0 (pa_cons (pv 0) (pa_cons (pe_tup (pa_cons (pv 3) (pa_cons (pv 5) pa_nil))) (pa_cons (pv 4) (pa_cons (pv 1) pa_nil))))))
      (pss_cons (ps_expr (pe_bm PySem.F.plainAttrs_list PySem.F.slot_list_append PySem.F.type_list_append mt_append (pv 2) (pa_cons (pe_tup (pa_cons (pv 3) (pa_cons (pv 5) pa_nil))) pa_nil)))
      (pss_one ps_break))
      pss_nil))))))
      (pss_one (ps_ret (pe_call G_l_plain (hr.mono (by decide)) (by rfl) m_l_plain k_l_plain b_l_plain .nil pass0 (pa_cons (pv 2) pa_nil)))))), ?_⟩
    rw [show L2.start ["ab", "sight", "pairs", "w", "wait", "stretch"] [.ref t, .int v] = [some (.ref t), some (.int v), none, none, none, none] from rfl]
    walk_at "rd"
    intro l hl
    have n1 := same_upd (o := .lst []) hl
    walk_at "rd"
    refine R.forR (fun i σ H' => ∃ x y z, σ = [some (.ref t), some (.int v), some (.ref l), x, y, z] ∧ ∃ zs ms, H' l = some (.lst zs) ∧ Same H H' ∧ KVs H' zs ms ∧ HbI a b v i ms) ⟨none, none, none, rfl, [], [], upd_same, n1, .nil, HbI.nil a b v⟩ ?_ ?_
    · rintro i σ H1 hi ⟨x, y, z, rfl, zs, ms, g1, sm, gk, hb⟩
      have e1 : (1 : Int) + (i : Int) = (i : Int) + 1 := by omega
      have ht1 := sm _ _ ht
      obtain ⟨l0, l1⟩ := ldd_small (w := (i : Int) + 1) h1 h2 h3 (by omega) (by omega)
      have szl : zs.length < sizeLine := Nat.lt_of_le_of_lt (m := 300) (by have := gk.len; have := hb.2.2; omega) (by decide)
      walk_at "rd"
      rw [e1]
      refine ⟨t, a, b, _, rfl, ht1, h1, h2, h3, by omega, by omega, ?_⟩
      walk_at "rd"
      refine R.forR (fun j σ H' => ∃ z, σ = [some (.ref t), some (.int v), some (.ref l), some (.int ((i : Int) + 1)), some (.int (ldd a b ((i : Int) + 1))), z] ∧ H' l = some (.lst zs) ∧ Same H1 H' ∧ ∀ g : Int, g < ldd a b ((i : Int) + 1) + 1 + j → ¬ BkB a b v ((i : Int) + 1, g)) ⟨z, rfl, g1, Same.refl _, fun g gl hx => ?_⟩ ?_ ?_
      · have s2 : ldd a b ((i : Int) + 1) < g := hx.1.2
        omega
      · rintro j σ G hj ⟨z, rfl, c1, sm2, nb⟩
        have ht2 := sm2 _ _ ht1
        walk_at "rd"
        intro r hr
        have n3 := same_upd (o := .tup [V.int ((i : Int) + 1), V.int (ldd a b ((i : Int) + 1) + 1 + (j : Int))]) hr
        have ht3 := n3 _ _ ht2
        have c3 := n3 _ _ c1
        walk_at "rd"
        refine ⟨t, r, a, b, v, _, ((i : Int) + 1, ldd a b ((i : Int) + 1) + 1 + (j : Int)), rfl, ht3, upd_same, h1, h2, h3, rfl, fun yes => ?_, fun no => ?_⟩
        · walk_at "rd"
          intro tn htn
          have c4 : upd (upd G r (.tup [V.int ((i : Int) + 1), V.int (ldd a b ((i : Int) + 1) + 1 + (j : Int))])) tn (.tup [V.int ((i : Int) + 1), V.int (ldd a b ((i : Int) + 1) + 1 + (j : Int))]) l = some (.lst zs) := by
            rw [upd_ne (ne_of_none c3 htn)]
            exact c3
          walk_at "rd"
          refine ⟨_, _, _, rfl, _, _, upd_same, fun bb o e => ?_, ?_, hb.yes (s := ldd a b ((i : Int) + 1) + 1 + (j : Int)) (by omega) (by omega) yes nb⟩
          · have e5 := n3 _ _ (sm2 _ _ (sm _ _ e))
            rw [upd_ne (ne_of_none e hl), upd_ne (ne_of_none e5 htn)]
            exact e5
          · refine ((gk.keep (.same sm2)).keep (.same n3)).snoc (t := tn) ((TK.new htn).trans (.lst c4)) ?_
            rw [upd_ne (ne_of_none c3 htn).symm]
            exact upd_same
        · walk_at "rd"
          refine ⟨_, rfl, c3, sm2.trans n3, fun g gl => ?_⟩
          by_cases c : g = ldd a b ((i : Int) + 1) + 1 + (j : Int)
          · rw [c]
            exact no
          · exact nb g (by omega)
      · rintro σ G ⟨z, rfl, c1, sm2, nb⟩
        refine ⟨_, _, _, rfl, zs, ms, c1, sm.trans sm2, gk.keep (.same sm2), hb.no fun g gl => nb g (by omega)⟩
    · rintro σ H1 ⟨x, y, z, rfl, zs, ms, g1, sm, gk, hb⟩
      obtain ⟨gg, tt⟩ := hb_end h1 h2 h3 hb
      walk_at "rd"
      refine ⟨l, zs, ms, rfl, SqL.of g1, gk, fun r zq H2 s2 hr g2 k2 => ?_⟩
      have hr0 : H r = none := by
        cases e : H r with
        | none => rfl
        | some o => rw [sm _ _ e] at hr; cases hr
      exact q r zq ms H2 (sm.trans s2) hr0 g2 k2 gg tt

theorem ok_l_numbers {f : Addr} {fd : FuncData} (F : L2.Fun K "_law_numbers" "_law_numbers" s_l_numbers f fd)
    {C_BadKind : Addr} (T_BadKind : S_BadKind K mg C_BadKind)
    {C_Climate : Addr} (T_Climate : S_Climate K mg C_Climate)
    {C_Lacquer : Addr} (T_Lacquer : S_Lacquer K mg C_Lacquer)
    (z_max : mg "max" = none)
    {f_f_booking_needed : Addr} {fd_f_booking_needed : FuncData} (G_f_booking_needed : FnOk P w K mg base CX0 8 f_f_booking_needed fd_f_booking_needed ["lacquer", "climate"] (sp_f_booking_needed K C_Lacquer C_Climate)) (m_f_booking_needed : mg "booking_needed" = some (.ref f_f_booking_needed)) (k_f_booking_needed : PySem.W.keepIn K (.ref f_f_booking_needed) = true) (b_f_booking_needed : Binds K fd_f_booking_needed ["lacquer", "climate"] [])
    {f_f_kind_booking : Addr} {fd_f_kind_booking : FuncData} (G_f_kind_booking : FnOk P w K mg base (L2.CX P w) 6 f_f_kind_booking fd_f_kind_booking ["lacquer", "w", "g"] (sp_f_kind_booking K C_Lacquer C_BadKind)) (m_f_kind_booking : mg "kind_booking" = some (.ref f_f_kind_booking)) (k_f_kind_booking : PySem.W.keepIn K (.ref f_f_kind_booking) = true) (b_f_kind_booking : Binds K fd_f_kind_booking ["lacquer", "w", "g"] [])
    {f_l_number : Addr} {fd_l_number : FuncData} (G_l_number : FnOk P w K mg base CX0 2 f_l_number fd_l_number ["ab", "kind"] (sp_l_number K)) (m_l_number : mg "_law_number" = some (.ref f_l_number)) (k_l_number : PySem.W.keepIn K (.ref f_l_number) = true) (b_l_number : Binds K fd_l_number ["ab", "kind"] [])
    {f_l_same : Addr} {fd_l_same : FuncData} (G_l_same : FnOk P w K mg base CX0 5 f_l_same fd_l_same ["actual", "due"] (sp_l_same K 5)) (m_l_same : mg "_law_same" = some (.ref f_l_same)) (k_l_same : PySem.W.keepIn K (.ref f_l_same) = true) (b_l_same : Binds K fd_l_same ["actual", "due"] []) :
    FnOk P w K mg base CX0 9 f fd ["lacquer", "climate", "ab", "kinds"] (sp_l_numbers K C_Lacquer C_Climate) := by
  refine F.ok sc_l_numbers (fun vs H Q E h => ?_) (fun cdv A outer s H vs Q E hr h => ?_)
  · obtain ⟨p, c, t, l, a, b, ys, ks, rfl, _⟩ := h
    rfl
  · obtain ⟨p, c, t, l, a, b, ys, ks, rfl, hp, hc, ht, h1, h2, h3, hl, hk, hg, q⟩ := h
    refine ⟨_, (pss_cons (ps_set (i := 4) sc_l_numbers.nd rfl (by first | exact Or.inl rfl | exact Or.inr rfl) (pe_ix ix_tup (pv 2) pe_int (fun _ _ => rfl)))
      (pss_cons (ps_set (i := 5) sc_l_numbers.nd rfl (by first | exact Or.inl rfl | exact Or.inr rfl) pe_bl)
      (pss_cons (ps_for PassesOwn.never rfl (pi_list (pv 3)) (pg_name (i := 6) sc_l_numbers.nd rfl (by first | exact Or.inl rfl | exact Or.inr rfl))
      (pss_cons (ps_set (i := 7) sc_l_numbers.nd rfl (by first | exact Or.inl rfl | exact Or.inr rfl) (pe_call G_l_number (hr.mono (by decide)) (by rfl) m_l_number k_l_number b_l_number .nil pass0 (pa_cons (pv 2) (pa_cons (pv 6) pa_nil))))
      (pss_cons (ps_if (pt_cmpR op_eq (pv 7) pe_int (nomark _))
      (pss_cons (ps_set (i := 5) sc_l_numbers.nd rfl (by first | exact Or.inl rfl | exact Or.inr rfl) pe_bl)
      (pss_one (ps_if (pt_cmpR OW.o_notN (pe_call G_f_kind_booking (hr.mono (by decide)) (by rfl) m_f_kind_booking k_f_kind_booking b_f_kind_booking .nil passL (pa_cons (pv 0) (pa_cons (pe_ix ix_tup (pv 6) pe_int (fun _ _ => rfl)) (pa_cons (pe_ix ix_tup (pv 6) pe_int (fun _ _ => rfl)) pa_nil)))) pe_non (nomark _))
      (pss_one (ps_ret pe_bl))
      pss_nil)))
      (pss_one (ps_if (pt_not (pt_val (pe_call G_l_same (hr.mono (by decide)) (by rfl) m_l_same k_l_same b_l_same .nil pass0 (pa_cons (pe_call G_f_kind_booking (hr.mono (by decide)) (by rfl) m_f_kind_booking k_f_kind_booking b_f_kind_booking .nil passL (pa_cons (pv 0) (pa_cons (pe_ix ix_tup (pv 6) pe_int (fun _ _ => rfl)) (pa_cons (pe_ix ix_tup (pv 6) pe_int (fun _ _ => rfl)) pa_nil)))) (pa_cons (pv 7) pa_nil)))))
      (pss_one (ps_ret pe_bl))
      pss_nil)))
      (pss_one (ps_set (i := 4) sc_l_numbers.nd rfl (by first | exact Or.inl rfl | exact Or.inr rfl) (pe_callB (OW.c_max2 rfl) (by rfl) z_max (by decide +kernel) (pa_cons (pv 4) (pa_cons (pv 7) pa_nil))))))))
      (pss_cons (ps_if (pt_not (pt_val (pv 5)))
      (pss_one (ps_ret (pe_cmpR OW.o_isN (pe_call G_f_booking_needed (hr.mono (by decide)) (by rfl) m_f_booking_needed k_f_booking_needed b_f_booking_needed .nil pass0 (pa_cons (pv 0) (pa_cons (pv 1) pa_nil))) pe_non (nomark _))))
      pss_nil)
      (pss_one (ps_ret (pe_call G_l_same (hr.mono (by decide)) (by rfl) m_l_same k_l_same b_l_same .nil pass0 (pa_cons (pe_call G_f_booking_needed (hr.mono (by decide)) (by rfl) m_f_booking_needed k_f_booking_needed b_f_booking_needed .nil pass0 (pa_cons (pv 0) (pa_cons (pv 1) pa_nil))) (pa_cons (pv 4) pa_nil))))))))), ?_⟩
    rw [show L2.start ["lacquer", "climate", "ab", "kinds", "due", "sound", "kind", "number"] [.ref p, .ref c, .ref t, .ref l] = [some (.ref p), some (.ref c), some (.ref t), some (.ref l), none, none, none, none] from rfl]
    have hkl := hk.len
    walk_at "rd"
    refine R.forL (xs := ys) (fun i σ H' => ∃ x y, σ = [some (.ref p), some (.ref c), some (.ref t), some (.ref l), some (.int (dueF a b (ks.take i))), some (.bl (sndAll a b (ks.take i))), x, y] ∧ Same H H') ⟨none, none, rfl, Same.refl _⟩ (fun i σ H' _ ⟨_, _, _, sm⟩ => SqL.of (sm _ _ hl)) ?_ ?_
    · rintro i x σ H1 hx ⟨x0, y0, rfl, sm⟩
      obtain ⟨k, tk, e1, rfl, e2⟩ := hk.at hx
      have g0 := hg k (List.mem_of_getElem? e1)
      have ht1 := sm _ _ ht
      have e3 := sm _ _ e2
      have suc := sndAll_snoc a b (ks.take i) k
      have suc2 := dueF_snoc a b (ks.take i) k
      rw [take_snoc e1] at suc suc2
      walk_at "rd"
      refine ⟨t, tk, a, b, k, rfl, ht1, e3, h1, h2, h3, g0.1, by omega, ?_⟩
      walk_at "rd"
      refine R.iteD (fun c1 => ?_) (fun c1 => ?_)
      · have sn := (num_zero h1 h2 h3 g0.1).mp c1
        walk_at "rd"
        refine ⟨p, a, b, _, _, rfl, hp.same sm, h1, h2, h3, ⟨by omega, by omega⟩, ⟨by omega, by omega⟩, fun h => absurd g0 h, fun _ H2 s2 => ?_⟩
        rw [if_neg (by show ¬ sndB a b k = true; rw [sn]; decide)]
        walk_at "rd"
        rw [max_py]
        refine ⟨some (.ref tk), some (.int (numN a b k)), ?_, sm.trans s2⟩
        rw [suc, suc2, sn, Bool.and_false]
      · have sy : sndB a b k = true := by
          cases e : sndB a b k with
          | true => rfl
          | false => exact absurd ((num_zero h1 h2 h3 g0.1).mpr e) c1
        walk_at "rd"
        refine ⟨p, a, b, _, _, rfl, hp.same sm, h1, h2, h3, ⟨by omega, by omega⟩, ⟨by omega, by omega⟩, fun h => absurd g0 h, fun _ H2 s2 => ?_⟩
        rw [if_pos (show sndB a b (k.1, k.2) = true from sy)]
        walk_at "rd"
        refine i_same (show bkN a b k = numN a b k by unfold numN; rw [if_pos sy]) ?_
        walk_at "rd"
        rw [max_py]
        refine ⟨some (.ref tk), some (.int (numN a b k)), ?_, sm.trans s2⟩
        rw [suc, suc2, sy, Bool.and_true]
    · rintro σ H1 ⟨x0, y0, rfl, sm⟩
      rw [hkl, List.take_length]
      have sb := sound_b h1 h2 hg
      walk_at "rd"
      refine R.iteN (fun d => ?_) (fun d => ?_)
      · walk_at "rd"
        refine ⟨p, c, a, b, _, rfl, hp.same sm, h1, h2, h3, hc.same sm, hg.pl, pl_len _, fun bad H2 s2 => ?_, fun ok m H2 s2 m1 m2 => ?_⟩
        · walk_at "rd"
          exact q H2 (sm.trans s2)
        · rw [sb, d] at ok
          cases ok
      · walk_at "rd"
        refine ⟨p, c, a, b, _, rfl, hp.same sm, h1, h2, h3, hc.same sm, hg.pl, pl_len _, fun bad H2 s2 => ?_, fun ok m H2 s2 m1 m2 => ?_⟩
        · rw [sb, d] at bad
          cases bad
        · walk_at "rd"
          refine i_same (num_end h1 h2 h3 hg (List.all_eq_true.mp d) m1 m2).symm ?_
          exact q H2 (sm.trans s2)

theorem ok_l_tops {f : Addr} {fd : FuncData} (F : L2.Fun K "_law_tops" "_law_tops" s_l_tops f fd)
    {C_BadNumber : Addr} (T_BadNumber : S_BadNumber K mg C_BadNumber)
    {C_Climate : Addr} (T_Climate : S_Climate K mg C_Climate)
    {C_Lacquer : Addr} (T_Lacquer : S_Lacquer K mg C_Lacquer)
    (z_isinstance : mg "isinstance" = none)
    (z_len : mg "len" = none)
    (z_max : mg "max" = none)
    (z_tuple : mg "tuple" = none)
    (kit_Climate_Climate : PySem.W.kitOne K (.ref C_Climate) (.ref C_Climate) = some true)
    {f_f_beneath : Addr} {fd_f_beneath : FuncData} (G_f_beneath : FnOk P w K mg base CX0 2 f_f_beneath fd_f_beneath ["one", "other"] (sp_f_beneath K C_Climate)) (m_f_beneath : mg "beneath" = some (.ref f_f_beneath)) (k_f_beneath : PySem.W.keepIn K (.ref f_f_beneath) = true) (b_f_beneath : Binds K fd_f_beneath ["one", "other"] [])
    {f_f_booking_needed : Addr} {fd_f_booking_needed : FuncData} (G_f_booking_needed : FnOk P w K mg base CX0 8 f_f_booking_needed fd_f_booking_needed ["lacquer", "climate"] (sp_f_booking_needed K C_Lacquer C_Climate)) (m_f_booking_needed : mg "booking_needed" = some (.ref f_f_booking_needed)) (k_f_booking_needed : PySem.W.keepIn K (.ref f_f_booking_needed) = true) (b_f_booking_needed : Binds K fd_f_booking_needed ["lacquer", "climate"] [])
    {f_f_greatest_booked : Addr} {fd_f_greatest_booked : FuncData} (G_f_greatest_booked : FnOk P w K mg base (L2.CX P w) 7 f_f_greatest_booked fd_f_greatest_booked ["lacquer", "sight"] (sp_f_greatest_booked K C_Lacquer C_Climate C_BadNumber)) (m_f_greatest_booked : mg "greatest_booked" = some (.ref f_f_greatest_booked)) (k_f_greatest_booked : PySem.W.keepIn K (.ref f_f_greatest_booked) = true) (b_f_greatest_booked : Binds K fd_f_greatest_booked ["lacquer", "sight"] [])
    {f_f_greatest_seen : Addr} {fd_f_greatest_seen : FuncData} (G_f_greatest_seen : FnOk P w K mg base (L2.CX P w) 5 f_f_greatest_seen fd_f_greatest_seen ["lacquer", "sight"] (sp_f_greatest_seen K C_Lacquer C_Climate C_BadNumber)) (m_f_greatest_seen : mg "greatest_seen" = some (.ref f_f_greatest_seen)) (k_f_greatest_seen : PySem.W.keepIn K (.ref f_f_greatest_seen) = true) (b_f_greatest_seen : Binds K fd_f_greatest_seen ["lacquer", "sight"] [])
    {f_l_booked : Addr} {fd_l_booked : FuncData} (G_l_booked : FnOk P w K mg base CX0 1 f_l_booked fd_l_booked ["ab", "kind", "wait", "sight"] (sp_l_booked K)) (m_l_booked : mg "_law_booked" = some (.ref f_l_booked)) (k_l_booked : PySem.W.keepIn K (.ref f_l_booked) = true) (b_l_booked : Binds K fd_l_booked ["ab", "kind", "wait", "sight"] [])
    {f_l_highest : Addr} {fd_l_highest : FuncData} (G_l_highest : FnOk P w K mg base CX0 3 f_l_highest fd_l_highest ["ab", "sight"] (sp_l_highest K)) (m_l_highest : mg "_law_highest" = some (.ref f_l_highest)) (k_l_highest : PySem.W.keepIn K (.ref f_l_highest) = true) (b_l_highest : Binds K fd_l_highest ["ab", "sight"] [])
    {f_l_number : Addr} {fd_l_number : FuncData} (G_l_number : FnOk P w K mg base CX0 2 f_l_number fd_l_number ["ab", "kind"] (sp_l_number K)) (m_l_number : mg "_law_number" = some (.ref f_l_number)) (k_l_number : PySem.W.keepIn K (.ref f_l_number) = true) (b_l_number : Binds K fd_l_number ["ab", "kind"] [])
    {f_l_same : Addr} {fd_l_same : FuncData} (G_l_same : FnOk P w K mg base CX0 5 f_l_same fd_l_same ["actual", "due"] (sp_l_same K 5)) (m_l_same : mg "_law_same" = some (.ref f_l_same)) (k_l_same : PySem.W.keepIn K (.ref f_l_same) = true) (b_l_same : Binds K fd_l_same ["actual", "due"] [])
    {f_l_wait : Addr} {fd_l_wait : FuncData} (G_l_wait : FnOk P w K mg base CX0 1 f_l_wait fd_l_wait ["ab", "w"] (sp_l_wait K)) (m_l_wait : mg "_law_wait" = some (.ref f_l_wait)) (k_l_wait : PySem.W.keepIn K (.ref f_l_wait) = true) (b_l_wait : Binds K fd_l_wait ["ab", "w"] []) :
    FnOk P w K mg base CX0 9 f fd ["lacquer", "climate", "ab", "kinds", "sight"] (sp_l_tops K C_Lacquer C_Climate) := by
  refine F.ok sc_l_tops (fun vs H Q E h => ?_) (fun cdv A outer s H vs Q E hr h => ?_)
  · obtain ⟨p, c, t, l, a, b, v, ys, ks, rfl, _⟩ := h
    rfl
  · obtain ⟨p, c, t, l, a, b, v, ys, ks, rfl, hp, hc, ht, h1, h2, h3, hl, hk, hg, hn, v0, v1, q⟩ := h
    refine ⟨_, (pss_cons (ps_set (i := 5) sc_l_tops.nd rfl (by first | exact Or.inl rfl | exact Or.inr rfl) (pe_call G_f_greatest_booked (hr.mono (by decide)) (by rfl) m_f_greatest_booked k_f_greatest_booked b_f_greatest_booked .nil passL (pa_cons (pv 0) (pa_cons (pv 4) pa_nil))))
      (pss_cons (ps_if (pt_cmpR op_lt (pv 4) (pe_ix ix_tup (pv 2) pe_int (fun _ _ => rfl)) (nomark _))
      (pss_one (ps_ret (pe_cmpR OW.o_isN (pv 5) pe_non (nomark _))))
      pss_nil)
      (pss_cons (ps_set (i := 6) sc_l_tops.nd rfl (by first | exact Or.inl rfl | exact Or.inr rfl) (pe_call G_l_highest (hr.mono (by decide)) (by rfl) m_l_highest k_l_highest b_l_highest .nil pass0 (pa_cons (pv 2) (pa_cons (pv 4) pa_nil))))
      (pss_cons (ps_if (PW.pt (pw_or (pt_not (pt_val (pe_callB call_isi (by rfl) z_isinstance (by decide +kernel) (pa_cons (pv 5) (pa_cons (C8.pe_gc (v := .ref C_Climate) (by rfl) ⟨_, T_Climate.mg, rfl⟩) pa_nil))))) (pw_or1 (pt_not (pt_val (pe_call G_l_same (hr.mono (by decide)) (by rfl) m_l_same k_l_same b_l_same .nil pass0 (pa_cons (pe_fld (pv 5) rfl) (pa_cons (pe_callTy OW.c_tupL (by rfl) z_tuple (by decide +kernel) (pa_cons (pv 6) pa_nil)) pa_nil))))))))
      (pss_one (ps_ret pe_bl))
      pss_nil)
      (pss_cons (ps_set (i := 7) sc_l_tops.nd rfl (by first | exact Or.inl rfl | exact Or.inr rfl) (pe_cmpR op_eq (pe_callB OW.c_len (by rfl) z_len (by decide +kernel) (pa_cons (pe_lc (own := [("kind", 10)]) (by rfl) sc_l_tops.nd (pi_list (pv 3)) (blkOk_by (N := N_l_tops) (sc := defScope s_l_tops) (by decide +kernel)) (fun _ _ _ _ _ => (pg_name (i := 10) sc_l_tops.nd rfl (by first | exact Or.inl rfl | exact Or.inr rfl))) (fun _ _ _ _ _ => pts_one (pt_not (pt_val (pe_call G_l_booked (hr.mono (by decide)) (by rfl) m_l_booked k_l_booked b_l_booked .nil pass0 (pa_cons (pv 2) (pa_cons (pv 10) (pa_cons (pe_call G_l_wait (hr.mono (by decide)) (by rfl) m_l_wait k_l_wait b_l_wait .nil pass0 (pa_cons (pv 2) (pa_cons (pe_ix (OW.ix_tupK (K := K) rfl) (pv 10) pe_int (fun _ _ => rfl)) pa_nil))) (pa_cons (pv 4) pa_nil)))))))) (fun _ _ _ _ _ => (pv 10))) pa_nil)) pe_int (nomark _)))
      (pss_cons (ps_if (pt_not (pt_val (pe_call G_l_same (hr.mono (by decide)) (by rfl) m_l_same k_l_same b_l_same .nil pass0 (pa_cons (pe_call G_f_beneath (hr.mono (by decide)) (by rfl) m_f_beneath k_f_beneath b_f_beneath .nil pass0 (pa_cons (pv 1) (pa_cons (pv 5) pa_nil))) (pa_cons (pv 7) pa_nil)))))
      (pss_one (ps_ret pe_bl))
      pss_nil)
      (pss_cons (ps_set (i := 8) sc_l_tops.nd rfl (by first | exact Or.inl rfl | exact Or.inr rfl) (pe_callB (cr_max rfl) (by rfl) z_max (by decide +kernel) (pa_cons (pe_op op_cat (pe_lst (pa_cons (pe_ix ix_tup (pv 2) pe_int (fun _ _ => rfl)) pa_nil)) (pe_lc (own := [("kind", 10)]) (by rfl) sc_l_tops.nd (pi_list (pv 6)) (blkOk_by (N := N_l_tops) (sc := defScope s_l_tops) (by decide +kernel)) (fun _ _ _ _ _ => (pg_name (i := 10) sc_l_tops.nd rfl (by first | exact Or.inl rfl | exact Or.inr rfl))) (fun _ _ _ _ _ => pts_nil) (fun _ _ _ _ _ => (pe_call G_l_number (hr.mono (by decide)) (by rfl) m_l_number k_l_number b_l_number .nil pass0 (pa_cons (pv 2) (pa_cons (pv 10) pa_nil)))))) pa_nil)))
      (pss_cons (ps_if (PW.pt (pw_or (pt_not (pt_val (pe_call G_l_same (hr.mono (by decide)) (by rfl) m_l_same k_l_same b_l_same .nil pass0 (pa_cons (pe_call G_f_booking_needed (hr.mono (by decide)) (by rfl) m_f_booking_needed k_f_booking_needed b_f_booking_needed .nil pass0 (pa_cons (pv 0) (pa_cons (pv 5) pa_nil))) (pa_cons (pv 8) pa_nil))))) (pw_or1 (pt_cmpR op_gt (pv 8) (pv 4) (nomark _)))))
      (pss_one (ps_ret pe_bl))
      pss_nil)
      (pss_cons (ps_set (i := 9) sc_l_tops.nd rfl (by first | exact Or.inl rfl | exact Or.inr rfl) (pe_call G_f_greatest_booked (hr.mono (by decide)) (by rfl) m_f_greatest_booked k_f_greatest_booked b_f_greatest_booked .nil passL (pa_cons (pv 0) (pa_cons (pe_op op_add (pv 4) pe_int) pa_nil))))
      (pss_cons (ps_if (PW.pt (pw_or (pt_not (pt_val (pe_callB call_isi (by rfl) z_isinstance (by decide +kernel) (pa_cons (pv 9) (pa_cons (C8.pe_gc (v := .ref C_Climate) (by rfl) ⟨_, T_Climate.mg, rfl⟩) pa_nil))))) (pw_or1 (pt_not (pt_val (pe_call G_l_same (hr.mono (by decide)) (by rfl) m_l_same k_l_same b_l_same .nil pass0 (pa_cons (pe_call G_f_beneath (hr.mono (by decide)) (by rfl) m_f_beneath k_f_beneath b_f_beneath .nil pass0 (pa_cons (pv 5) (pa_cons (pv 9) pa_nil))) (pa_cons pe_bl pa_nil))))))))
      (pss_one (ps_ret pe_bl))
      pss_nil)
      (pss_one (ps_ret (pe_call G_l_same (hr.mono (by decide)) (by rfl) m_l_same k_l_same b_l_same .nil pass0 (pa_cons (pe_call G_f_beneath (hr.mono (by decide)) (by rfl) m_f_beneath k_f_beneath b_f_beneath .nil pass0 (pa_cons (pv 5) (pa_cons (pe_call G_f_greatest_seen (hr.mono (by decide)) (by rfl) m_f_greatest_seen k_f_greatest_seen b_f_greatest_seen .nil passL (pa_cons (pv 0) (pa_cons (pv 4) pa_nil))) pa_nil))) (pa_cons pe_bl pa_nil))))))))))))))), ?_⟩
    rw [show L2.start ["lacquer", "climate", "ab", "kinds", "sight", "told", "highest", "below", "worst_here", "wider", "kind"] [.ref p, .ref c, .ref t, .ref l, .int v] = [some (.ref p), some (.ref c), some (.ref t), some (.ref l), some (.int v), none, none, none, none, none, none] from rfl]
    -- kit_Climate_Climate
    walk_at "rd"
    have kl16 := pl_len ks
    have gl16 := fun u => pl_len (gbK a b u)
    have sl16 := pl_len (seenK a b v)
    have gbg := fun u => gbK_good (v := u) h1 h2 h3
    refine ⟨p, a, b, v, rfl, hp, h1, h2, h3, by omega, fun h => absurd h (by omega), fun _ c0 => ?_, fun c0 x H1 s1 hX => ?_⟩
    · walk_at "rd"
      rw [decide_eq_true (rfl : V.non = V.non)]
      exact q H (Same.refl _)
    · have ht1 := s1 _ _ ht
      have nv : ¬ v < a := by omega
      walk_at "rd"
      refine ⟨t, a, b, v, rfl, ht1, h1, h2, h3, fun r zs ms H2 s2 hr0 g2 k2 gg tt => ?_⟩
      have S2 := s1.trans s2
      have ee := tells_eq (gbg v) gg (gbK_tells h1 h2 h3) tt
      obtain ⟨dx, tx, zx, x1, x2, x3⟩ := hX.same s2
      walk_at "rd"
      intro rt hrt
      have n3 := same_upd (o := .tup zs) hrt
      have S3 := S2.trans n3
      walk_at "rd"
      refine t_same (n3 _ _ x2) (x3.keep (.same n3)) upd_same (k2.keep (.same n3)) ee (by have := gl16 v; omega) ?_
      have hl3 := S3 _ _ hl
      have hk3 := hk.keep (.same S3)
      have ht3 := S3 _ _ ht
      walk_at "rd"
      intro D hD
      refine lc_list (xs := ys) (fun i H' => ∃ acc, H' D = some (.lst acc) ∧ Same (upd H2 rt (.tup zs)) H' ∧ acc.length = ((ks.take i).filter fun k => !bkDec a b v k).length) ⟨[], upd_same, same_upd hD, rfl⟩ (fun i H' _ ⟨_, _, sm, _⟩ => SqL.of (sm _ _ hl3)) ?_ ?_
      · rintro i y G hx ⟨acc, g1, sm6, gl⟩
        obtain ⟨k, tk, e1, rfl, e2⟩ := hk3.at hx
        obtain ⟨k1, k2, k3, k4⟩ := hg k (List.mem_of_getElem? e1)
        have e3 := sm6 _ _ e2
        have ht4 := sm6 _ _ ht3
        have snoc : (ks.take (i + 1)).filter (fun k => !bkDec a b v k) = (ks.take i).filter (fun k => !bkDec a b v k) ++ [k].filter (fun k => !bkDec a b v k) := by rw [← take_snoc e1, List.filter_append]
        have szl : acc.length < sizeLine := by
          have := List.length_filter_le (fun k : Int × Int => !bkDec a b v k) (ks.take i)
          rw [List.length_take] at this
          exact Nat.lt_of_le_of_lt (m := 300) (by omega) (by decide)
        walk_at "rd"
        refine ⟨t, a, b, _, rfl, ht4, h1, h2, h3, k1, by omega, ?_⟩
        walk_at "rd"
        refine ⟨t, tk, a, b, v, _, k, rfl, ht4, e3, h1, h2, h3, rfl, fun yes => ?_, fun no => ?_⟩
        · have fn : [k].filter (fun k => !bkDec a b v k) = [] := List.filter_cons_of_neg (by rw [bkDec_iff.mpr yes]; decide)
          walk_at "rd"
          refine ⟨acc, g1, sm6, ?_⟩
          rw [snoc, fn, List.append_nil, gl]
        · have fp : [k].filter (fun k => !bkDec a b v k) = [k] := List.filter_cons_of_pos (by rw [bkDec_no no]; rfl)
          walk_at "rd"
          refine ⟨acc, g1, szl, acc ++ [.ref tk], upd_same, fun bb o e => ?_, ?_⟩
          · rw [upd_ne (ne_of_none e hD)]
            exact sm6 _ _ e
          · rw [snoc, fp, List.length_append, List.length_append, gl]
            rfl
      · rintro G ⟨acc, g1, sm6, gl⟩
        rw [hk3.len, List.take_length] at gl
        have U6 := n3.trans sm6
        have S6 := S2.trans U6
        have ht6 := S6 _ _ ht
        have hr6 := U6 _ _ g2
        have k26 := k2.keep (.same U6)
        walk_at "rd"
        refine ⟨c, x, _, _, rfl, hc.same S6, (hX.same s2).same U6, by omega, by have := gl16 v; omega, fun H7 s7 => ?_⟩
        walk_at "rd"
        refine b_same (by rw [below_b h1 h2 h3 hg, gl]) ?_
        have U7 := U6.trans s7
        have S7 := S2.trans U7
        have ht7 := S7 _ _ ht
        have hr7 := U7 _ _ g2
        have k27 := k2.keep (.same U7)
        have hX7 := (hX.same s2).same U7
        walk_at "rd"
        intro la hla
        have n8 := same_upd (o := .lst [.int a]) hla
        have ht8 := n8 _ _ ht7
        have hr8 := n8 _ _ hr7
        have k28 := k27.keep (.same n8)
        walk_at "rd"
        intro D2 hD2
        refine lc_list (xs := zs) (fun i H' => H' D2 = some (.lst ((((pl ms).take i).map (numN a b)).map V.int)) ∧ Same (upd H7 la (.lst [.int a])) H') ⟨upd_same, same_upd hD2⟩ (fun i H' _ ⟨_, sm⟩ => SqL.of (sm _ _ hr8)) ?_ ?_
        · rintro i y G2 hx ⟨d1, sm9⟩
          obtain ⟨k, tk, e1, rfl, e2⟩ := k28.at hx
          have gk := gg.pl k (List.mem_of_getElem? e1)
          have e3 := sm9 _ _ e2
          have ht9 := sm9 _ _ ht8
          have ml := pl_len ms
          walk_at "rd"
          refine ⟨t, tk, a, b, k, rfl, ht9, e3, h1, h2, h3, gk.1, by omega, ?_⟩
          refine ⟨_, d1, Nat.lt_of_le_of_lt (m := 300) ?_ (by decide), ?_, fun bb o e => ?_⟩
          · rw [List.length_map, List.length_map, List.length_take]
            omega
          · rw [← take_snoc e1, List.map_append, List.map_append]
            exact upd_same
          · rw [upd_ne (ne_of_none e hD2)]
            exact sm9 _ _ e
        · rintro G2 ⟨d1, sm9⟩
          rw [k28.len, List.take_length, nms_eq (tells_pl gg tt.1), ← ee] at d1
          have z1 := sm9 la _ upd_same
          have bl : (bksL a b (pl (gbK a b v))).length ≤ 16 := by unfold bksL; rw [List.length_map]; exact gl16 v
          walk_at "rd"
          refine ⟨la, D2, _, _, rfl, rfl, z1, d1, ?_, fun pz hpz => ?_⟩
          · rw [List.length_map]
            exact Nat.le_trans (m := 300) (by show 1 + _ ≤ 300; omega) (by decide)
          walk_at "rd"
          refine ⟨pz, a :: bksL a b (pl (gbK a b v)), rfl, SqL.of upd_same, Nat.succ_pos _, fun w w1 w2 => ?_⟩
          have U9 := (n8.trans sm9).trans (same_upd (o := .lst ([.int a] ++ (bksL a b (pl (gbK a b v))).map V.int)) hpz)
          have S9 := S7.trans U9
          have hX9 := hX7.same U9
          have wv : w ≤ v := by
            rcases List.mem_cons.mp w1 with z | z
            · omega
            · obtain ⟨k, hk', ek⟩ := List.mem_map.mp z
              have hb := (gbK_tells (v := v) h1 h2 h3).1 k (of_pl (gbg v) hk')
              have := (bk_iff h1 h2 (bk_snd hb)).mp hb
              omega
          walk_at "rd"
          refine ⟨p, x, a, b, _, rfl, hp.same S9, h1, h2, h3, hX9, (gbg v).pl, gl16 v, fun bad H10 s10 => ?_, fun ok m H10 s10 m1 m2 => ?_⟩
          · rw [gb_all h1 h2 h3] at bad
            cases bad
          walk_at "rd"
          refine i_same (max_one m1 m2 w1 w2) ?_
          walk_at "rd"
          refine ⟨p, a, b, v + 1, rfl, hp.same (S9.trans s10), h1, h2, h3, by omega, fun h => absurd h (by omega), fun _ h => absurd h (by omega), fun _ y H11 s11 hY => ?_⟩
          obtain ⟨dy, ty, zy, y1, y2, y3⟩ := id hY
          have hX11 := hX9.same (s10.trans s11)
          walk_at "rd"
          refine ⟨x, y, _, _, rfl, hX11, hY, by have := gl16 v; omega, by have := gl16 (v + 1); omega, fun H12 s12 => ?_⟩
          walk_at "rd"
          refine b_same (gb_rise h1 h2 h3) ?_
          walk_at "rd"
          refine ⟨p, a, b, v, rfl, hp.same (((S9.trans s10).trans s11).trans s12), h1, h2, h3, by omega, fun h => absurd h (by omega), fun _ z H13 s13 hZ => ?_⟩
          walk_at "rd"
          refine ⟨x, z, _, _, rfl, hX11.same (s12.trans s13), hZ, by have := gl16 v; omega, by omega, fun H14 s14 => ?_⟩
          walk_at "rd"
          refine b_same (gb_seen h1 h2 h3 v0) ?_
          exact q H14 (((((S9.trans s10).trans s11).trans s12).trans s13).trans s14)

theorem ok_l_asked {f : Addr} {fd : FuncData} (F : L2.Fun K "_law_asked" "_law_asked" s_l_asked f fd)
    {C_Climate : Addr} (T_Climate : S_Climate K mg C_Climate)
    {C_Lacquer : Addr} (T_Lacquer : S_Lacquer K mg C_Lacquer)
    (z_list : mg "list" = none)
    {f_l_no_kind : Addr} {fd_l_no_kind : FuncData} (G_l_no_kind : FnOk P w K mg base CX0 7 f_l_no_kind fd_l_no_kind ["lacquer", "odd"] (sp_l_no_kind C_Lacquer)) (m_l_no_kind : mg "_law_no_kind" = some (.ref f_l_no_kind)) (k_l_no_kind : PySem.W.keepIn K (.ref f_l_no_kind) = true) (b_l_no_kind : Binds K fd_l_no_kind ["lacquer", "odd"] [])
    {f_l_no_sight : Addr} {fd_l_no_sight : FuncData} (G_l_no_sight : FnOk P w K mg base CX0 8 f_l_no_sight fd_l_no_sight ["lacquer", "sight"] (sp_l_no_sight C_Lacquer)) (m_l_no_sight : mg "_law_no_sight" = some (.ref f_l_no_sight)) (k_l_no_sight : PySem.W.keepIn K (.ref f_l_no_sight) = true) (b_l_no_sight : Binds K fd_l_no_sight ["lacquer", "sight"] [])
    {f_l_numbers : Addr} {fd_l_numbers : FuncData} (G_l_numbers : FnOk P w K mg base CX0 9 f_l_numbers fd_l_numbers ["lacquer", "climate", "ab", "kinds"] (sp_l_numbers K C_Lacquer C_Climate)) (m_l_numbers : mg "_law_numbers" = some (.ref f_l_numbers)) (k_l_numbers : PySem.W.keepIn K (.ref f_l_numbers) = true) (b_l_numbers : Binds K fd_l_numbers ["lacquer", "climate", "ab", "kinds"] [])
    {f_l_tops : Addr} {fd_l_tops : FuncData} (G_l_tops : FnOk P w K mg base CX0 9 f_l_tops fd_l_tops ["lacquer", "climate", "ab", "kinds", "sight"] (sp_l_tops K C_Lacquer C_Climate)) (m_l_tops : mg "_law_tops" = some (.ref f_l_tops)) (k_l_tops : PySem.W.keepIn K (.ref f_l_tops) = true) (b_l_tops : Binds K fd_l_tops ["lacquer", "climate", "ab", "kinds", "sight"] [])
    {f_Climate_init : Addr} {fd_Climate_init : FuncData} (G_Climate_init : FnOk P w K mg base CX0 3 f_Climate_init fd_Climate_init ["self", "kinds"] (sp_Climate_init K C_Climate)) (b_Climate_init : Binds K fd_Climate_init ["self", "kinds"] []) (I_Climate : Mk K C_Climate f_Climate_init)
    {f_Lacquer_init : Addr} {fd_Lacquer_init : FuncData} (G_Lacquer_init : FnOk P w K mg base CX0 1 f_Lacquer_init fd_Lacquer_init ["self", "a", "b"] (sp_Lacquer_init C_Lacquer)) (b_Lacquer_init : Binds K fd_Lacquer_init ["self", "a", "b"] []) (I_Lacquer : Mk K C_Lacquer f_Lacquer_init) :
    FnOk P w K mg base CX0 10 f fd ["ab", "kinds", "sight", "odd"] (sp_l_asked K C_Lacquer C_Climate) := by
  refine F.ok sc_l_asked (fun vs H Q E h => ?_) (fun cdv A outer s H vs Q E hr h => ?_)
  · obtain ⟨t, l, od, a, b, v, x, y, ys, ks, rfl, _⟩ := h
    rfl
  · obtain ⟨t, l, od, a, b, v, x, y, ys, ks, rfl, ht, h1, h2, h3, hl, hk, hg, hn, v8, v9, hod, ho2, q⟩ := h
    refine ⟨_, (pss_cons (ps_set (i := 4) sc_l_asked.nd rfl (by first | exact Or.inl rfl | exact Or.inr rfl) (pe_make I_Lacquer G_Lacquer_init (hr.mono (by decide)) (by rfl) T_Lacquer.mg b_Lacquer_init .nil pass0 (pa_cons (pe_ix ix_tup (pv 0) pe_int (fun _ _ => rfl)) (pa_cons (pe_ix ix_tup (pv 0) pe_int (fun _ _ => rfl)) pa_nil))))
      (pss_cons (ps_set (i := 5) sc_l_asked.nd rfl (by first | exact Or.inl rfl | exact Or.inr rfl) (pe_make I_Climate G_Climate_init (hr.mono (by decide)) (by rfl) T_Climate.mg b_Climate_init .nil pass0 (pa_cons (pe_callTy OW.c_lstL (by rfl) z_list (by decide +kernel) (pa_cons (pv 1) pa_nil)) pa_nil)))
      (pss_cons (ps_if (PW.pt (pw_or (pt_not (pt_val (pe_call G_l_numbers (hr.mono (by decide)) (by rfl) m_l_numbers k_l_numbers b_l_numbers .nil pass0 (pa_cons (pv 4) (pa_cons (pv 5) (pa_cons (pv 0) (pa_cons (pv 1) pa_nil))))))) (pw_or1 (pt_not (pt_val (pe_call G_l_no_kind (hr.mono (by decide)) (by rfl) m_l_no_kind k_l_no_kind b_l_no_kind .nil pass0 (pa_cons (pv 4) (pa_cons (pv 3) pa_nil))))))))
      (pss_one (ps_ret pe_bl))
      pss_nil)
      (pss_cons (ps_if (pt_cmpR op_lt (pv 2) pe_int (nomark _))
      (pss_one (ps_ret (pe_and (pe_call G_l_no_sight (hr.mono (by decide)) (by rfl) m_l_no_sight k_l_no_sight b_l_no_sight .nil pass0 (pa_cons (pv 4) (pa_cons (pv 2) pa_nil))) (pe_one (pe_call G_l_tops (hr.mono (by decide)) (by rfl) m_l_tops k_l_tops b_l_tops .nil pass0 (pa_cons (pv 4) (pa_cons (pv 5) (pa_cons (pv 0) (pa_cons (pv 1) (pa_cons (pe_op op_sub (pe_op op_sub pe_int pe_int) (pv 2)) pa_nil))))))))))
      pss_nil)
      (pss_one (ps_ret (pe_call G_l_tops (hr.mono (by decide)) (by rfl) m_l_tops k_l_tops b_l_tops .nil pass0 (pa_cons (pv 4) (pa_cons (pv 5) (pa_cons (pv 0) (pa_cons (pv 1) (pa_cons (pv 2) pa_nil)))))))))))), ?_⟩
    rw [show L2.start ["ab", "kinds", "sight", "odd", "lacquer", "climate"] [.ref t, .ref l, .int v, .ref od] = [some (.ref t), some (.ref l), some (.int v), some (.ref od), none, none] from rfl]
    walk_at "rd"
    intro o do_ ho hdo hne
    refine lac_made ho hdo h1 h2 h3 fun H1 s1 hL1 => ⟨rfl, ?_⟩
    have hl1 := s1 _ _ hl
    walk_at "rd"
    intro ll hll
    have n1 := s1.trans (same_upd (o := .lst ys) hll)
    walk_at "rd"
    intro c dc hc hdc hnc
    refine clim_made' hc hdc upd_same (hk.keep (.same n1)) (by omega) hg fun H2 s2 hC2 => ⟨rfl, ?_⟩
    have S2 := n1.trans s2
    have ht2 := S2 _ _ ht
    have hl2 := S2 _ _ hl
    have hod2 := S2 _ _ hod
    have hk2 := hk.keep (.same S2)
    have hL2 := hL1.same ((same_upd (o := .lst ys) hll).trans s2)
    walk_at "rd"
    refine ⟨o, c, t, l, a, b, ys, ks, rfl, hL2, hC2, ht2, h1, h2, h3, hl2, hk2, hg, fun H3 s3 => ?_⟩
    walk_at "rd"
    refine ⟨o, od, a, b, x, y, rfl, hL2.same s3, h1, h2, h3, s3 _ _ hod2, ho2, ?_⟩
    walk_at "rd"
    refine R.iteD (fun d => ?_) (fun d => ?_)
    · walk_at "rd"
      refine ⟨o, a, b, v, rfl, hL2.same s3, h1, h2, h3, d, ?_⟩
      walk_at "rd"
      refine ⟨o, c, t, l, a, b, 0 - 1 - v, ys, ks, rfl, hL2.same s3, hC2.same s3, s3 _ _ ht2, h1, h2, h3, s3 _ _ hl2, hk2.keep (.same s3), hg, hn, by omega, by omega, fun H4 s4 => ?_⟩
      exact q H4 ((S2.trans s3).trans s4)
    · walk_at "rd"
      refine ⟨o, c, t, l, a, b, v, ys, ks, rfl, hL2.same s3, hC2.same s3, s3 _ _ ht2, h1, h2, h3, s3 _ _ hl2, hk2.keep (.same s3), hg, hn, by omega, by omega, fun H4 s4 => ?_⟩
      exact q H4 ((S2.trans s3).trans s4)

theorem ok_l_law {f : Addr} {fd : FuncData} (F : L2.Fun K "law" "law" s_l_law f fd)
    {C_Climate : Addr} (T_Climate : S_Climate K mg C_Climate)
    {C_Lacquer : Addr} (T_Lacquer : S_Lacquer K mg C_Lacquer)
    {f_l_ab : Addr} {fd_l_ab : FuncData} (G_l_ab : FnOk P w K mg base CX0 2 f_l_ab fd_l_ab ["pool", "most"] sp_l_ab) (m_l_ab : mg "_law_ab" = some (.ref f_l_ab)) (k_l_ab : PySem.W.keepIn K (.ref f_l_ab) = true) (b_l_ab : Binds K fd_l_ab ["pool", "most"] [])
    {f_l_ahead : Addr} {fd_l_ahead : FuncData} (G_l_ahead : FnOk P w K mg base CX0 3 f_l_ahead fd_l_ahead ["pool", "ab"] (sp_l_ahead K)) (m_l_ahead : mg "_law_ahead" = some (.ref f_l_ahead)) (k_l_ahead : PySem.W.keepIn K (.ref f_l_ahead) = true) (b_l_ahead : Binds K fd_l_ahead ["pool", "ab"] [])
    {f_l_asked : Addr} {fd_l_asked : FuncData} (G_l_asked : FnOk P w K mg base CX0 10 f_l_asked fd_l_asked ["ab", "kinds", "sight", "odd"] (sp_l_asked K C_Lacquer C_Climate)) (m_l_asked : mg "_law_asked" = some (.ref f_l_asked)) (k_l_asked : PySem.W.keepIn K (.ref f_l_asked) = true) (b_l_asked : Binds K fd_l_asked ["ab", "kinds", "sight", "odd"] [])
    {f_l_cell : Addr} {fd_l_cell : FuncData} (G_l_cell : FnOk P w K mg base CX0 1 f_l_cell fd_l_cell ["script", "k"] (sp_l_cell K)) (m_l_cell : mg "_law_cell" = some (.ref f_l_cell)) (k_l_cell : PySem.W.keepIn K (.ref f_l_cell) = true) (b_l_cell : Binds K fd_l_cell ["script", "k"] [])
    {f_l_drawn : Addr} {fd_l_drawn : FuncData} (G_l_drawn : FnOk P w K mg base CX0 4 f_l_drawn fd_l_drawn ["pool", "ab"] (sp_l_drawn K)) (m_l_drawn : mg "_law_drawn" = some (.ref f_l_drawn)) (k_l_drawn : PySem.W.keepIn K (.ref f_l_drawn) = true) (b_l_drawn : Binds K fd_l_drawn ["pool", "ab"] [])
    {f_l_odd : Addr} {fd_l_odd : FuncData} (G_l_odd : FnOk P w K mg base CX0 2 f_l_odd fd_l_odd ["pool"] sp_l_odd) (m_l_odd : mg "_law_odd" = some (.ref f_l_odd)) (k_l_odd : PySem.W.keepIn K (.ref f_l_odd) = true) (b_l_odd : Binds K fd_l_odd ["pool"] [])
    {f_l_pool : Addr} {fd_l_pool : FuncData} (G_l_pool : FnOk P w K mg base CX0 1 f_l_pool fd_l_pool ["cell"] sp_l_pool) (m_l_pool : mg "_law_pool" = some (.ref f_l_pool)) (k_l_pool : PySem.W.keepIn K (.ref f_l_pool) = true) (b_l_pool : Binds K fd_l_pool ["cell"] []) :
    FnOk P w K mg base CX0 11 f fd ["script"] (sp_l_law K) := by
  refine F.ok sc_l_law (fun vs H Q E h => ?_) (fun cdv A outer s H vs Q E hr h => ?_)
  · obtain ⟨a, ns, rfl, _⟩ := h
    rfl
  · obtain ⟨a, ns, rfl, hS, _, q⟩ := h
    refine ⟨_, (pss_cons (ps_set (i := 1) sc_l_law.nd rfl (by first | exact Or.inl rfl | exact Or.inr rfl) (pe_call G_l_pool (hr.mono (by decide)) (by rfl) m_l_pool k_l_pool b_l_pool .nil pass0 (pa_cons (pe_call G_l_cell (hr.mono (by decide)) (by rfl) m_l_cell k_l_cell b_l_cell .nil pass0 (pa_cons (pv 0) (pa_cons pe_int pa_nil))) pa_nil)))
      (pss_cons (ps_set (i := 2) sc_l_law.nd rfl (by first | exact Or.inl rfl | exact Or.inr rfl) (pe_call G_l_ab (hr.mono (by decide)) (by rfl) m_l_ab k_l_ab b_l_ab .nil pass0 (pa_cons (pv 1) (pa_cons pe_int pa_nil))))
      (pss_cons (ps_set (i := 3) sc_l_law.nd rfl (by first | exact Or.inl rfl | exact Or.inr rfl) (pe_call G_l_drawn (hr.mono (by decide)) (by rfl) m_l_drawn k_l_drawn b_l_drawn .nil pass0 (pa_cons (pv 1) (pa_cons (pv 2) pa_nil))))
      (pss_cons (ps_set (i := 4) sc_l_law.nd rfl (by first | exact Or.inl rfl | exact Or.inr rfl) (pe_call G_l_ahead (hr.mono (by decide)) (by rfl) m_l_ahead k_l_ahead b_l_ahead .nil pass0 (pa_cons (pv 1) (pa_cons (pv 2) pa_nil))))
      (pss_cons (ps_set (i := 5) sc_l_law.nd rfl (by first | exact Or.inl rfl | exact Or.inr rfl) (pe_call G_l_odd (hr.mono (by decide)) (by rfl) m_l_odd k_l_odd b_l_odd .nil pass0 (pa_cons (pv 1) pa_nil)))
      (pss_cons (ps_set (i := 1) sc_l_law.nd rfl (by first | exact Or.inl rfl | exact Or.inr rfl) (pe_call G_l_pool (hr.mono (by decide)) (by rfl) m_l_pool k_l_pool b_l_pool .nil pass0 (pa_cons (pe_call G_l_cell (hr.mono (by decide)) (by rfl) m_l_cell k_l_cell b_l_cell .nil pass0 (pa_cons (pv 0) (pa_cons pe_int pa_nil))) pa_nil)))
      (pss_cons (ps_set (i := 6) sc_l_law.nd rfl (by first | exact Or.inl rfl | exact Or.inr rfl) (pe_call G_l_ab (hr.mono (by decide)) (by rfl) m_l_ab k_l_ab b_l_ab .nil pass0 (pa_cons (pv 1) (pa_cons pe_int pa_nil))))
      (pss_cons (ps_set (i := 7) sc_l_law.nd rfl (by first | exact Or.inl rfl | exact Or.inr rfl) (pe_call G_l_drawn (hr.mono (by decide)) (by rfl) m_l_drawn k_l_drawn b_l_drawn .nil pass0 (pa_cons (pv 1) (pa_cons (pv 6) pa_nil))))
      (pss_cons (ps_set (i := 8) sc_l_law.nd rfl (by first | exact Or.inl rfl | exact Or.inr rfl) (pe_call G_l_ahead (hr.mono (by decide)) (by rfl) m_l_ahead k_l_ahead b_l_ahead .nil pass0 (pa_cons (pv 1) (pa_cons (pv 6) pa_nil))))
      (pss_cons (ps_if (PW.pt (pw_or (pt_not (pt_val (pe_call G_l_asked (hr.mono (by decide)) (by rfl) m_l_asked k_l_asked b_l_asked .nil pass0 (pa_cons (pv 2) (pa_cons (pv 3) (pa_cons (pv 4) (pa_cons (pv 5) pa_nil))))))) (pw_or1 (pt_not (pt_val (pe_call G_l_asked (hr.mono (by decide)) (by rfl) m_l_asked k_l_asked b_l_asked .nil pass0 (pa_cons (pv 6) (pa_cons (pv 7) (pa_cons (pv 8) (pa_cons (pe_call G_l_odd (hr.mono (by decide)) (by rfl) m_l_odd k_l_odd b_l_odd .nil pass0 (pa_cons (pv 1) pa_nil)) pa_nil))))))))))
      (pss_one (ps_ret pe_bl))
      pss_nil)
      (pss_one (ps_ret (pe_call G_l_asked (hr.mono (by decide)) (by rfl) m_l_asked k_l_asked b_l_asked .nil pass0 (pa_cons (pv 2) (pa_cons (pv 3) (pa_cons (pv 4) (pa_cons (pv 5) pa_nil))))))))))))))))), ?_⟩
    rw [show L2.start ["script", "pool", "ab", "kinds", "sight", "odd", "other", "more", "farther"] [.ref a] = [some (.ref a), none, none, none, none, none, none, none, none] from rfl]
    walk_at "rd"
    refine ⟨a, ns, 0, rfl, hS, fun i => ?_⟩
    walk_at "rd"
    refine ⟨i, rfl, fun p p0 p1 p2 hp => ?_⟩
    walk_at "rd"
    refine ⟨p, _, rfl, ⟨_, _, _, upd_same⟩, by decide, by decide, fun x y t H2 x1 xy y12 hP2 c2 ht0 ht => ?_⟩
    walk_at "rd"
    refine ⟨p, t, x, y, rfl, hP2, ht, x1, xy, y12, fun l ks H3 dr kl gk => ?_⟩
    obtain ⟨zs, z1, z2, z3, z4, z5, z6⟩ := dr
    have ht3 := TK.chg z6 hP2 _ _ ht
    walk_at "rd"
    refine ⟨p, t, x, y, rfl, z5, ht3, x1, xy, y12, fun d H4 d0 d1 hP4 c4 => ?_⟩
    have ht4 := TK.chg c4 z5 _ _ ht3
    have hl4 := c4 _ _ z2 z3
    have hk4 := z4.keep (.chg c4 z5)
    walk_at "rd"
    refine ⟨p, rfl, hP4, fun od o1 o2 Ho oo od0 odp hod hPo co => ?_⟩
    have S4 : Same H Ho := chg_same hp rfl (((c2.trans z6).trans c4).trans co)
    have hto := TK.chg co hP4 _ _ ht4
    have hlo := co _ _ z2 hl4
    have hko := hk4.keep (.chg co hP4)
    walk_at "rd"
    refine ⟨a, ns, 1, rfl, Same.seq S4 hS, fun i2 => ?_⟩
    walk_at "rd"
    refine ⟨i2, rfl, fun r r0 r1 r2 hr => ?_⟩
    walk_at "rd"
    refine ⟨r, _, rfl, ⟨_, _, _, upd_same⟩, by decide, by decide, fun x' y' t' H5 x1' xy' y12' hP5 c5 ht0' ht' => ?_⟩
    walk_at "rd"
    refine ⟨r, t', x', y', rfl, hP5, ht', x1', xy', y12', fun l' ks' H6 dr' kl' gk' => ?_⟩
    obtain ⟨zs', w1, w2, w3, w4, w5, w6⟩ := dr'
    have ht6' := TK.chg w6 hP5 _ _ ht'
    walk_at "rd"
    refine ⟨r, t', x', y', rfl, w5, ht6', x1', xy', y12', fun d' H7 e0 e1 hP7 c7 => ?_⟩
    have S7 : Same Ho H7 := chg_same hr rfl ((c5.trans w6).trans c7)
    have ht7' := TK.chg c7 w5 _ _ ht6'
    have hl7' := c7 _ _ w2 w3
    have hk7' := w4.keep (.chg c7 w5)
    have ht7 := S7 _ _ hto
    have hl7 := S7 _ _ hlo
    have hod7 := S7 _ _ hod
    have hk7 := hko.keep (.same S7)
    walk_at "rd"
    refine ⟨t, l, od, x, y, d, o1, o2, zs, ks, rfl, ht7, x1, xy, y12, hl7, hk7, gk, kl, d0, d1, hod7, oo, fun H8 s8 => ?_⟩
    have hP8 : PoolAt H8 r := hP7.keep s8
    have ht8' := s8 _ _ ht7'
    have hl8' := s8 _ _ hl7'
    have hk8' := hk7'.keep (.same s8)
    have ht8 := s8 _ _ ht7
    have hl8 := s8 _ _ hl7
    have hod8 := s8 _ _ hod7
    have hk8 := hk7.keep (.same s8)
    walk_at "rd"
    refine ⟨r, rfl, hP8, fun oe o3 o4 H9 oo' oe0 oep hoe hP9 c9 => ?_⟩
    have rl : l ≠ r := ne_of_none hlo hr
    walk_at "rd"
    refine ⟨t', l', oe, x', y', d', o3, o4, zs', ks', rfl, TK.chg c9 hP8 _ _ ht8', x1', xy', y12', c9 _ _ w2 hl8', hk8'.keep (.chg c9 hP8), gk', kl', e0, e1, hoe, oo', fun H10 s10 => ?_⟩
    walk_at "rd"
    refine ⟨t, l, od, x, y, d, o1, o2, zs, ks, rfl, s10 _ _ (TK.chg c9 hP8 _ _ ht8), x1, xy, y12, s10 _ _ (c9 _ _ rl hl8), (hk8.keep (.chg c9 hP8)).keep (.same s10), gk, kl, d0, d1, s10 _ _ (TK.chg c9 hP8 _ _ hod8), oo, fun H11 s11 => ?_⟩
    exact q H11
end
/-! ### what the top has written -/
theorem all_mk {l : PySem.W.OpenLaw} {w : World} {K : PySem.W.Frag} {h : Heap} {mg : Str → Option Value} {fa : Addr} (X : K.In h) (G : h.Ns mainGlobals mg) (hfa : mg "law" = some (.ref fa))
    {C_BadKind : Addr}
    {C_BadNumber : Addr}
    {C_Climate : Addr}
    {C_DampError : Addr}
    {C_Lacquer : Addr}
    {tkc_Lacquer_v_MOST : Tok}
    {C_TooLarge : Addr}
    {tkg_CLOSE : Tok}
    {tkg_LONG : Tok}
    {tkg_MOST_KINDS : Tok}
    {tkg_MOST_RUN : Tok}
    {tkg_MOST_SPELL : Tok}
    {f_f_check_kind : Addr} {od_f_check_kind an_f_check_kind : Option Addr} {sl_f_check_kind : Array (Option Value)} {oc_f_check_kind kV_f_check_kind dc_f_check_kind pm_f_check_kind cd_f_check_kind ct_f_check_kind : Value}
    {f_f_check_kinds : Addr} {od_f_check_kinds an_f_check_kinds : Option Addr} {sl_f_check_kinds : Array (Option Value)} {oc_f_check_kinds kV_f_check_kinds dc_f_check_kinds pm_f_check_kinds cd_f_check_kinds ct_f_check_kinds : Value}
    {f_f_plain_list : Addr} {od_f_plain_list an_f_plain_list : Option Addr} {sl_f_plain_list : Array (Option Value)} {oc_f_plain_list kV_f_plain_list dc_f_plain_list pm_f_plain_list cd_f_plain_list ct_f_plain_list : Value}
    {f_Lacquer_slack : Addr} {od_Lacquer_slack an_Lacquer_slack : Option Addr} {sl_Lacquer_slack : Array (Option Value)} {oc_Lacquer_slack kV_Lacquer_slack dc_Lacquer_slack pm_Lacquer_slack cd_Lacquer_slack ct_Lacquer_slack : Value}
    {p_Lacquer_slack : Addr} {rest_Lacquer_slack : List Value}
    {f_f_ceil_div : Addr} {od_f_ceil_div an_f_ceil_div : Option Addr} {sl_f_ceil_div : Array (Option Value)} {oc_f_ceil_div kV_f_ceil_div dc_f_ceil_div pm_f_ceil_div cd_f_ceil_div ct_f_ceil_div : Value}
    {f_Lacquer_spans : Addr} {od_Lacquer_spans an_Lacquer_spans : Option Addr} {sl_Lacquer_spans : Array (Option Value)} {oc_Lacquer_spans kV_Lacquer_spans dc_Lacquer_spans pm_Lacquer_spans cd_Lacquer_spans ct_Lacquer_spans : Value}
    {f_Lacquer_lead : Addr} {od_Lacquer_lead an_Lacquer_lead : Option Addr} {sl_Lacquer_lead : Array (Option Value)} {oc_Lacquer_lead kV_Lacquer_lead dc_Lacquer_lead pm_Lacquer_lead cd_Lacquer_lead ct_Lacquer_lead : Value}
    {f_f_is_sound_kind : Addr} {od_f_is_sound_kind an_f_is_sound_kind : Option Addr} {sl_f_is_sound_kind : Array (Option Value)} {oc_f_is_sound_kind kV_f_is_sound_kind dc_f_is_sound_kind pm_f_is_sound_kind cd_f_is_sound_kind ct_f_is_sound_kind : Value}
    {f_Climate_iter : Addr} {od_Climate_iter an_Climate_iter : Option Addr} {sl_Climate_iter : Array (Option Value)} {oc_Climate_iter kV_Climate_iter dc_Climate_iter pm_Climate_iter cd_Climate_iter ct_Climate_iter : Value}
    {f_f_fault : Addr} {od_f_fault an_f_fault : Option Addr} {sl_f_fault : Array (Option Value)} {oc_f_fault kV_f_fault dc_f_fault pm_f_fault cd_f_fault ct_f_fault : Value}
    {f_f_bad_kinds : Addr} {od_f_bad_kinds an_f_bad_kinds : Option Addr} {sl_f_bad_kinds : Array (Option Value)} {oc_f_bad_kinds kV_f_bad_kinds dc_f_bad_kinds pm_f_bad_kinds cd_f_bad_kinds ct_f_bad_kinds : Value}
    {f_f_is_sound : Addr} {od_f_is_sound an_f_is_sound : Option Addr} {sl_f_is_sound : Array (Option Value)} {oc_f_is_sound kV_f_is_sound dc_f_is_sound pm_f_is_sound cd_f_is_sound ct_f_is_sound : Value}
    {f_f_kind_booking : Addr} {od_f_kind_booking an_f_kind_booking : Option Addr} {sl_f_kind_booking : Array (Option Value)} {oc_f_kind_booking kV_f_kind_booking dc_f_kind_booking pm_f_kind_booking cd_f_kind_booking ct_f_kind_booking : Value}
    {f_f_booking_needed : Addr} {od_f_booking_needed an_f_booking_needed : Option Addr} {sl_f_booking_needed : Array (Option Value)} {oc_f_booking_needed kV_f_booking_needed dc_f_booking_needed pm_f_booking_needed cd_f_booking_needed ct_f_booking_needed : Value}
    {f_Lacquer_init : Addr} {od_Lacquer_init an_Lacquer_init : Option Addr} {sl_Lacquer_init : Array (Option Value)} {oc_Lacquer_init kV_Lacquer_init dc_Lacquer_init pm_Lacquer_init cd_Lacquer_init ct_Lacquer_init : Value}
    {f_f_check_sight : Addr} {od_f_check_sight an_f_check_sight : Option Addr} {sl_f_check_sight : Array (Option Value)} {oc_f_check_sight kV_f_check_sight dc_f_check_sight pm_f_check_sight cd_f_check_sight ct_f_check_sight : Value}
    {f_Climate_init : Addr} {od_Climate_init an_Climate_init : Option Addr} {sl_Climate_init : Array (Option Value)} {oc_Climate_init kV_Climate_init dc_Climate_init pm_Climate_init cd_Climate_init ct_Climate_init : Value}
    {f_Climate_eq : Addr} {od_Climate_eq an_Climate_eq : Option Addr} {sl_Climate_eq : Array (Option Value)} {oc_Climate_eq kV_Climate_eq dc_Climate_eq pm_Climate_eq cd_Climate_eq ct_Climate_eq : Value}
    {f_Climate_or : Addr} {od_Climate_or an_Climate_or : Option Addr} {sl_Climate_or : Array (Option Value)} {oc_Climate_or kV_Climate_or dc_Climate_or pm_Climate_or cd_Climate_or ct_Climate_or : Value}
    {f_Climate_and : Addr} {od_Climate_and an_Climate_and : Option Addr} {sl_Climate_and : Array (Option Value)} {oc_Climate_and kV_Climate_and dc_Climate_and pm_Climate_and cd_Climate_and ct_Climate_and : Value}
    {f_Climate_longest : Addr} {od_Climate_longest an_Climate_longest : Option Addr} {sl_Climate_longest : Array (Option Value)} {oc_Climate_longest kV_Climate_longest dc_Climate_longest pm_Climate_longest cd_Climate_longest ct_Climate_longest : Value}
    {f_f_top_kinds : Addr} {od_f_top_kinds an_f_top_kinds : Option Addr} {sl_f_top_kinds : Array (Option Value)} {oc_f_top_kinds kV_f_top_kinds dc_f_top_kinds pm_f_top_kinds cd_f_top_kinds ct_f_top_kinds : Value}
    {f_f_greatest_seen : Addr} {od_f_greatest_seen an_f_greatest_seen : Option Addr} {sl_f_greatest_seen : Array (Option Value)} {oc_f_greatest_seen kV_f_greatest_seen dc_f_greatest_seen pm_f_greatest_seen cd_f_greatest_seen ct_f_greatest_seen : Value}
    {f_f_greatest_booked : Addr} {od_f_greatest_booked an_f_greatest_booked : Option Addr} {sl_f_greatest_booked : Array (Option Value)} {oc_f_greatest_booked kV_f_greatest_booked dc_f_greatest_booked pm_f_greatest_booked cd_f_greatest_booked ct_f_greatest_booked : Value}
    {f_f_beneath : Addr} {od_f_beneath an_f_beneath : Option Addr} {sl_f_beneath : Array (Option Value)} {oc_f_beneath kV_f_beneath dc_f_beneath pm_f_beneath cd_f_beneath ct_f_beneath : Value}
    {f_l_cell : Addr} {od_l_cell an_l_cell : Option Addr} {sl_l_cell : Array (Option Value)} {oc_l_cell kV_l_cell dc_l_cell pm_l_cell cd_l_cell ct_l_cell : Value}
    {f_l_pool : Addr} {od_l_pool an_l_pool : Option Addr} {sl_l_pool : Array (Option Value)} {oc_l_pool kV_l_pool dc_l_pool pm_l_pool cd_l_pool ct_l_pool : Value}
    {f_l_take : Addr} {od_l_take an_l_take : Option Addr} {sl_l_take : Array (Option Value)} {oc_l_take kV_l_take dc_l_take pm_l_take cd_l_take ct_l_take : Value}
    {f_l_up : Addr} {od_l_up an_l_up : Option Addr} {sl_l_up : Array (Option Value)} {oc_l_up kV_l_up dc_l_up pm_l_up cd_l_up ct_l_up : Value}
    {f_l_same : Addr} {od_l_same an_l_same : Option Addr} {sl_l_same : Array (Option Value)} {oc_l_same kV_l_same dc_l_same pm_l_same cd_l_same ct_l_same : Value}
    {f_l_ab : Addr} {od_l_ab an_l_ab : Option Addr} {sl_l_ab : Array (Option Value)} {oc_l_ab kV_l_ab dc_l_ab pm_l_ab cd_l_ab ct_l_ab : Value}
    {f_l_kinds : Addr} {od_l_kinds an_l_kinds : Option Addr} {sl_l_kinds : Array (Option Value)} {oc_l_kinds kV_l_kinds dc_l_kinds pm_l_kinds cd_l_kinds ct_l_kinds : Value}
    {f_l_lead : Addr} {od_l_lead an_l_lead : Option Addr} {sl_l_lead : Array (Option Value)} {oc_l_lead kV_l_lead dc_l_lead pm_l_lead cd_l_lead ct_l_lead : Value}
    {f_l_sound_kinds : Addr} {od_l_sound_kinds an_l_sound_kinds : Option Addr} {sl_l_sound_kinds : Array (Option Value)} {oc_l_sound_kinds kV_l_sound_kinds dc_l_sound_kinds pm_l_sound_kinds cd_l_sound_kinds ct_l_sound_kinds : Value}
    {f_l_least_run : Addr} {od_l_least_run an_l_least_run : Option Addr} {sl_l_least_run : Array (Option Value)} {oc_l_least_run kV_l_least_run dc_l_least_run pm_l_least_run cd_l_least_run ct_l_least_run : Value}
    {f_l_plain : Addr} {od_l_plain an_l_plain : Option Addr} {sl_l_plain : Array (Option Value)} {oc_l_plain kV_l_plain dc_l_plain pm_l_plain cd_l_plain ct_l_plain : Value}
    {f_l_wait : Addr} {od_l_wait an_l_wait : Option Addr} {sl_l_wait : Array (Option Value)} {oc_l_wait kV_l_wait dc_l_wait pm_l_wait cd_l_wait ct_l_wait : Value}
    {f_l_booked : Addr} {od_l_booked an_l_booked : Option Addr} {sl_l_booked : Array (Option Value)} {oc_l_booked kV_l_booked dc_l_booked pm_l_booked cd_l_booked ct_l_booked : Value}
    {f_l_number : Addr} {od_l_number an_l_number : Option Addr} {sl_l_number : Array (Option Value)} {oc_l_number kV_l_number dc_l_number pm_l_number cd_l_number ct_l_number : Value}
    {f_l_drawn : Addr} {od_l_drawn an_l_drawn : Option Addr} {sl_l_drawn : Array (Option Value)} {oc_l_drawn kV_l_drawn dc_l_drawn pm_l_drawn cd_l_drawn ct_l_drawn : Value}
    {f_l_ahead : Addr} {od_l_ahead an_l_ahead : Option Addr} {sl_l_ahead : Array (Option Value)} {oc_l_ahead kV_l_ahead dc_l_ahead pm_l_ahead cd_l_ahead ct_l_ahead : Value}
    {f_l_odd : Addr} {od_l_odd an_l_odd : Option Addr} {sl_l_odd : Array (Option Value)} {oc_l_odd kV_l_odd dc_l_odd pm_l_odd cd_l_odd ct_l_odd : Value}
    {f_l_no_kind : Addr} {od_l_no_kind an_l_no_kind : Option Addr} {sl_l_no_kind : Array (Option Value)} {oc_l_no_kind kV_l_no_kind dc_l_no_kind pm_l_no_kind cd_l_no_kind ct_l_no_kind : Value}
    {f_l_no_sight : Addr} {od_l_no_sight an_l_no_sight : Option Addr} {sl_l_no_sight : Array (Option Value)} {oc_l_no_sight kV_l_no_sight dc_l_no_sight pm_l_no_sight cd_l_no_sight ct_l_no_sight : Value}
    {f_l_highest : Addr} {od_l_highest an_l_highest : Option Addr} {sl_l_highest : Array (Option Value)} {oc_l_highest kV_l_highest dc_l_highest pm_l_highest cd_l_highest ct_l_highest : Value}
    {f_l_numbers : Addr} {od_l_numbers an_l_numbers : Option Addr} {sl_l_numbers : Array (Option Value)} {oc_l_numbers kV_l_numbers dc_l_numbers pm_l_numbers cd_l_numbers ct_l_numbers : Value}
    {f_l_tops : Addr} {od_l_tops an_l_tops : Option Addr} {sl_l_tops : Array (Option Value)} {oc_l_tops kV_l_tops dc_l_tops pm_l_tops cd_l_tops ct_l_tops : Value}
    {f_l_asked : Addr} {od_l_asked an_l_asked : Option Addr} {sl_l_asked : Array (Option Value)} {oc_l_asked kV_l_asked dc_l_asked pm_l_asked cd_l_asked ct_l_asked : Value}
    {f_l_law : Addr} {od_l_law an_l_law : Option Addr} {sl_l_law : Array (Option Value)} {oc_l_law kV_l_law dc_l_law pm_l_law cd_l_law ct_l_law : Value}
    (a_BadKind : PySem.W.nsIn K mainGlobals "BadKind" = some (some (.ref C_BadKind)))
    (c_BadKind_x : PySem.W.excIn K C_BadKind [.type "ValueError", .type "Exception", .type "BaseException", .type "object"] "ValueError.__new__" = true)
    (c_BadKind_kp : PySem.W.keepIn K (.ref C_BadKind) = true)
    (c_BadKind_b : PySem.W.subIn K (.ref C_BadKind) (.type "BaseException") = some true)
    (c_BadKind_t : PySem.W.typeIn K (.ref C_BadKind) = some (.type "type"))
    (c_BadKind_i : PySem.W.isClsIn K C_BadKind = true)
    (c_BadKind_s : PySem.W.subIn K (.ref C_BadKind) (.ref C_BadKind) = some true)
    (c_BadKind_hg : PySem.W.findIn K (.ref C_BadKind) "__getattribute__" = some (some (.builtin "BaseException.__getattribute__")))
    (c_BadKind_hk : PySem.W.findIn K (.ref C_BadKind) "__getattr__" = some none)
    (c_BadKind_hd : PySem.W.hasDictIn K C_BadKind = true)
    (c_BadKind_ha : PySem.W.findIn K (.ref C_BadKind) "__class__" = some (some (.builtin "object.__class__")))
    (c_BadKind_hn : PySem.W.specialIn K (.builtin "object.__class__") "__get__" = some (some (.builtin "getset_descriptor.__get__")))
    (c_BadKind_ht : PySem.W.takesIn K (.builtin "object.__class__") = some true)
    (c_BadKind_hm : PySem.W.mroIn K C_BadKind (.type "object") = some true)
    (a_BadNumber : PySem.W.nsIn K mainGlobals "BadNumber" = some (some (.ref C_BadNumber)))
    (c_BadNumber_x : PySem.W.excIn K C_BadNumber [.type "ValueError", .type "Exception", .type "BaseException", .type "object"] "ValueError.__new__" = true)
    (c_BadNumber_kp : PySem.W.keepIn K (.ref C_BadNumber) = true)
    (c_BadNumber_b : PySem.W.subIn K (.ref C_BadNumber) (.type "BaseException") = some true)
    (c_BadNumber_t : PySem.W.typeIn K (.ref C_BadNumber) = some (.type "type"))
    (c_BadNumber_i : PySem.W.isClsIn K C_BadNumber = true)
    (c_BadNumber_s : PySem.W.subIn K (.ref C_BadNumber) (.ref C_BadNumber) = some true)
    (c_BadNumber_hg : PySem.W.findIn K (.ref C_BadNumber) "__getattribute__" = some (some (.builtin "BaseException.__getattribute__")))
    (c_BadNumber_hk : PySem.W.findIn K (.ref C_BadNumber) "__getattr__" = some none)
    (c_BadNumber_hd : PySem.W.hasDictIn K C_BadNumber = true)
    (c_BadNumber_ha : PySem.W.findIn K (.ref C_BadNumber) "__class__" = some (some (.builtin "object.__class__")))
    (c_BadNumber_hn : PySem.W.specialIn K (.builtin "object.__class__") "__get__" = some (some (.builtin "getset_descriptor.__get__")))
    (c_BadNumber_ht : PySem.W.takesIn K (.builtin "object.__class__") = some true)
    (c_BadNumber_hm : PySem.W.mroIn K C_BadNumber (.type "object") = some true)
    (a_Climate : PySem.W.nsIn K mainGlobals "Climate" = some (some (.ref C_Climate)))
    (c_Climate_pg : PySem.W.plainGet K C_Climate Str.empty = true)
    (c_Climate_hd : PySem.W.hasDictIn K C_Climate = true)
    (c_Climate_po : PySem.W.plainOver K C_Climate = true)
    (c_Climate_sa : PySem.W.findIn K (.ref C_Climate) "__setattr__" = some (some (.builtin "object.__setattr__")))
    (c_Climate_sf : PySem.W.selfFirst K C_Climate = true)
    (c_Climate_nf : PySem.W.notFirst K C_Climate (.ref C_Climate) = true)
    (c_Climate_ha : PySem.W.findIn K (.ref C_Climate) "__class__" = some (some (.builtin "object.__class__")))
    (c_Climate_hn : PySem.W.specialIn K (.builtin "object.__class__") "__get__" = some (some (.builtin "getset_descriptor.__get__")))
    (c_Climate_ht : PySem.W.takesIn K (.builtin "object.__class__") = some true)
    (c_Climate_hm : PySem.W.mroIn K C_Climate (.type "object") = some true)
    (c_Climate_kp : PySem.W.keepIn K (.ref C_Climate) = true)
    (c_Climate_mkk : PySem.W.makesIn K C_Climate = true)
    (c_Climate_n_kinds : PySem.W.findIn K (.ref C_Climate) "kinds" = some none)
    (a_DampError : PySem.W.nsIn K mainGlobals "DampError" = some (some (.ref C_DampError)))
    (c_DampError_x : PySem.W.excIn K C_DampError [.type "ValueError", .type "Exception", .type "BaseException", .type "object"] "ValueError.__new__" = true)
    (c_DampError_kp : PySem.W.keepIn K (.ref C_DampError) = true)
    (c_DampError_b : PySem.W.subIn K (.ref C_DampError) (.type "BaseException") = some true)
    (c_DampError_t : PySem.W.typeIn K (.ref C_DampError) = some (.type "type"))
    (c_DampError_i : PySem.W.isClsIn K C_DampError = true)
    (c_DampError_s : PySem.W.subIn K (.ref C_DampError) (.ref C_DampError) = some true)
    (c_DampError_hg : PySem.W.findIn K (.ref C_DampError) "__getattribute__" = some (some (.builtin "BaseException.__getattribute__")))
    (c_DampError_hk : PySem.W.findIn K (.ref C_DampError) "__getattr__" = some none)
    (c_DampError_hd : PySem.W.hasDictIn K C_DampError = true)
    (c_DampError_ha : PySem.W.findIn K (.ref C_DampError) "__class__" = some (some (.builtin "object.__class__")))
    (c_DampError_hn : PySem.W.specialIn K (.builtin "object.__class__") "__get__" = some (some (.builtin "getset_descriptor.__get__")))
    (c_DampError_ht : PySem.W.takesIn K (.builtin "object.__class__") = some true)
    (c_DampError_hm : PySem.W.mroIn K C_DampError (.type "object") = some true)
    (a_Lacquer : PySem.W.nsIn K mainGlobals "Lacquer" = some (some (.ref C_Lacquer)))
    (c_Lacquer_pg : PySem.W.plainGet K C_Lacquer Str.empty = true)
    (c_Lacquer_hd : PySem.W.hasDictIn K C_Lacquer = true)
    (c_Lacquer_po : PySem.W.plainOver K C_Lacquer = true)
    (c_Lacquer_sa : PySem.W.findIn K (.ref C_Lacquer) "__setattr__" = some (some (.builtin "object.__setattr__")))
    (c_Lacquer_sf : PySem.W.selfFirst K C_Lacquer = true)
    (c_Lacquer_nf : PySem.W.notFirst K C_Lacquer (.ref C_Lacquer) = true)
    (c_Lacquer_ha : PySem.W.findIn K (.ref C_Lacquer) "__class__" = some (some (.builtin "object.__class__")))
    (c_Lacquer_hn : PySem.W.specialIn K (.builtin "object.__class__") "__get__" = some (some (.builtin "getset_descriptor.__get__")))
    (c_Lacquer_ht : PySem.W.takesIn K (.builtin "object.__class__") = some true)
    (c_Lacquer_hm : PySem.W.mroIn K C_Lacquer (.type "object") = some true)
    (c_Lacquer_kp : PySem.W.keepIn K (.ref C_Lacquer) = true)
    (c_Lacquer_mkk : PySem.W.makesIn K C_Lacquer = true)
    (c_Lacquer_v_MOST : PySem.W.findCls K (.ref C_Lacquer) (.type "type") "MOST" = some (.val (.int 12 tkc_Lacquer_v_MOST)))
    (c_Lacquer_rd : PySem.W.readsIn K C_Lacquer (.type "type") = true)
    (c_Lacquer_ga : PySem.W.specialIn K (.ref C_Lacquer) "__getattribute__" = some (some (.builtin "type.__getattribute__")))
    (c_Lacquer_n_a : PySem.W.findIn K (.ref C_Lacquer) "a" = some none)
    (c_Lacquer_n_b : PySem.W.findIn K (.ref C_Lacquer) "b" = some none)
    (a_TooLarge : PySem.W.nsIn K mainGlobals "TooLarge" = some (some (.ref C_TooLarge)))
    (c_TooLarge_x : PySem.W.excIn K C_TooLarge [.type "ValueError", .type "Exception", .type "BaseException", .type "object"] "ValueError.__new__" = true)
    (c_TooLarge_kp : PySem.W.keepIn K (.ref C_TooLarge) = true)
    (c_TooLarge_b : PySem.W.subIn K (.ref C_TooLarge) (.type "BaseException") = some true)
    (c_TooLarge_t : PySem.W.typeIn K (.ref C_TooLarge) = some (.type "type"))
    (c_TooLarge_i : PySem.W.isClsIn K C_TooLarge = true)
    (c_TooLarge_s : PySem.W.subIn K (.ref C_TooLarge) (.ref C_TooLarge) = some true)
    (c_TooLarge_hg : PySem.W.findIn K (.ref C_TooLarge) "__getattribute__" = some (some (.builtin "BaseException.__getattribute__")))
    (c_TooLarge_hk : PySem.W.findIn K (.ref C_TooLarge) "__getattr__" = some none)
    (c_TooLarge_hd : PySem.W.hasDictIn K C_TooLarge = true)
    (c_TooLarge_ha : PySem.W.findIn K (.ref C_TooLarge) "__class__" = some (some (.builtin "object.__class__")))
    (c_TooLarge_hn : PySem.W.specialIn K (.builtin "object.__class__") "__get__" = some (some (.builtin "getset_descriptor.__get__")))
    (c_TooLarge_ht : PySem.W.takesIn K (.builtin "object.__class__") = some true)
    (c_TooLarge_hm : PySem.W.mroIn K C_TooLarge (.type "object") = some true)
    (kit_BadKind_DampError : PySem.W.kitOne K (.ref C_BadKind) (.ref C_DampError) = some true)
    (kit_BadKind_TooLarge : PySem.W.kitOne K (.ref C_BadKind) (.ref C_TooLarge) = some false)
    (kit_BadKind_ValueError : PySem.W.kitOne K (.ref C_BadKind) (.type "ValueError") = some true)
    (kit_BadNumber_DampError : PySem.W.kitOne K (.ref C_BadNumber) (.ref C_DampError) = some true)
    (kit_BadNumber_TooLarge : PySem.W.kitOne K (.ref C_BadNumber) (.ref C_TooLarge) = some false)
    (kit_BadNumber_ValueError : PySem.W.kitOne K (.ref C_BadNumber) (.type "ValueError") = some true)
    (kit_Climate_Climate : PySem.W.kitOne K (.ref C_Climate) (.ref C_Climate) = some true)
    (kit_bool_bool : PySem.W.kitOne K (.type "bool") (.type "bool") = some true)
    (kit_int_bool : PySem.W.kitOne K (.type "int") (.type "bool") = some false)
    (kit_int_int : PySem.W.kitOne K (.type "int") (.type "int") = some true)
    (kit_list_bool : PySem.W.kitOne K (.type "list") (.type "bool") = some false)
    (kit_list_int : PySem.W.kitOne K (.type "list") (.type "int") = some false)
    (kit_list_list : PySem.W.kitOne K (.type "list") (.type "list") = some true)
    (kit_list_str : PySem.W.kitOne K (.type "list") (.type "str") = some false)
    (kit_list_tuple : PySem.W.kitOne K (.type "list") (.type "tuple") = some false)
    (kit_str_bool : PySem.W.kitOne K (.type "str") (.type "bool") = some false)
    (kit_str_int : PySem.W.kitOne K (.type "str") (.type "int") = some false)
    (kit_str_str : PySem.W.kitOne K (.type "str") (.type "str") = some true)
    (kit_tuple_bool : PySem.W.kitOne K (.type "tuple") (.type "bool") = some false)
    (kit_tuple_int : PySem.W.kitOne K (.type "tuple") (.type "int") = some false)
    (kit_tuple_list : PySem.W.kitOne K (.type "tuple") (.type "list") = some false)
    (kit_tuple_str : PySem.W.kitOne K (.type "tuple") (.type "str") = some false)
    (kit_tuple_tuple : PySem.W.kitOne K (.type "tuple") (.type "tuple") = some true)
    (y_ValueError : PySem.W.nsIn K mainGlobals "ValueError" = some none)
    (y_all : PySem.W.nsIn K mainGlobals "all" = some none)
    (y_bool : PySem.W.nsIn K mainGlobals "bool" = some none)
    (y_int : PySem.W.nsIn K mainGlobals "int" = some none)
    (y_isinstance : PySem.W.nsIn K mainGlobals "isinstance" = some none)
    (y_iter : PySem.W.nsIn K mainGlobals "iter" = some none)
    (y_len : PySem.W.nsIn K mainGlobals "len" = some none)
    (y_list : PySem.W.nsIn K mainGlobals "list" = some none)
    (y_max : PySem.W.nsIn K mainGlobals "max" = some none)
    (y_min : PySem.W.nsIn K mainGlobals "min" = some none)
    (y_range : PySem.W.nsIn K mainGlobals "range" = some none)
    (y_sorted : PySem.W.nsIn K mainGlobals "sorted" = some none)
    (y_str : PySem.W.nsIn K mainGlobals "str" = some none)
    (y_tuple : PySem.W.nsIn K mainGlobals "tuple" = some none)
    (y_CLOSE : PySem.W.nsIn K mainGlobals "CLOSE" = some (some (.str "close" tkg_CLOSE)))
    (y_LONG : PySem.W.nsIn K mainGlobals "LONG" = some (some (.str "long" tkg_LONG)))
    (y_MOST_KINDS : PySem.W.nsIn K mainGlobals "MOST_KINDS" = some (some (.int 300 tkg_MOST_KINDS)))
    (y_MOST_RUN : PySem.W.nsIn K mainGlobals "MOST_RUN" = some (some (.int 120 tkg_MOST_RUN)))
    (y_MOST_SPELL : PySem.W.nsIn K mainGlobals "MOST_SPELL" = some (some (.int 16 tkg_MOST_SPELL)))
    (a_f_check_kind : PySem.W.nsIn K mainGlobals "check_kind" = some (some (.ref f_f_check_kind)))
    (l_f_check_kind : K.lookup f_f_check_kind = some ⟨oc_f_check_kind, od_f_check_kind, .func (PySem.W.fnOf "check_kind" "check_kind" (defArgs s_f_check_kind) (defBody s_f_check_kind) (defScope s_f_check_kind) .none kV_f_check_kind dc_f_check_kind pm_f_check_kind an_f_check_kind cd_f_check_kind ct_f_check_kind), sl_f_check_kind⟩)
    (e_f_check_kind : PySem.W.codeIn K cd_f_check_kind "check_kind" = true)
    (k_f_check_kind : PySem.W.keepIn K (.ref f_f_check_kind) = true)
    (a_f_check_kinds : PySem.W.nsIn K mainGlobals "check_kinds" = some (some (.ref f_f_check_kinds)))
    (l_f_check_kinds : K.lookup f_f_check_kinds = some ⟨oc_f_check_kinds, od_f_check_kinds, .func (PySem.W.fnOf "check_kinds" "check_kinds" (defArgs s_f_check_kinds) (defBody s_f_check_kinds) (defScope s_f_check_kinds) .none kV_f_check_kinds dc_f_check_kinds pm_f_check_kinds an_f_check_kinds cd_f_check_kinds ct_f_check_kinds), sl_f_check_kinds⟩)
    (e_f_check_kinds : PySem.W.codeIn K cd_f_check_kinds "check_kinds" = true)
    (k_f_check_kinds : PySem.W.keepIn K (.ref f_f_check_kinds) = true)
    (a_f_plain_list : PySem.W.nsIn K mainGlobals "plain_list" = some (some (.ref f_f_plain_list)))
    (l_f_plain_list : K.lookup f_f_plain_list = some ⟨oc_f_plain_list, od_f_plain_list, .func (PySem.W.fnOf "plain_list" "plain_list" (defArgs s_f_plain_list) (defBody s_f_plain_list) (defScope s_f_plain_list) .none kV_f_plain_list dc_f_plain_list pm_f_plain_list an_f_plain_list cd_f_plain_list ct_f_plain_list), sl_f_plain_list⟩)
    (e_f_plain_list : PySem.W.codeIn K cd_f_plain_list "plain_list" = true)
    (k_f_plain_list : PySem.W.keepIn K (.ref f_f_plain_list) = true)
    (a_Lacquer_slack : PySem.W.findIn K (.ref C_Lacquer) "slack" = some (some (.ref p_Lacquer_slack)))
    (pg_Lacquer_slack : PySem.W.specialIn K (.ref p_Lacquer_slack) "__get__" = some (some (.builtin "property.__get__")))
    (pt_Lacquer_slack : PySem.W.takesIn K (.ref p_Lacquer_slack) = some true)
    (pr_Lacquer_slack : PySem.W.recIn K p_Lacquer_slack "property" = some (.ref f_Lacquer_slack :: rest_Lacquer_slack))
    (l_Lacquer_slack : K.lookup f_Lacquer_slack = some ⟨oc_Lacquer_slack, od_Lacquer_slack, .func (PySem.W.fnOf "slack" "Lacquer.slack" (defArgs s_Lacquer_slack) (defBody s_Lacquer_slack) (defScope s_Lacquer_slack) .none kV_Lacquer_slack dc_Lacquer_slack pm_Lacquer_slack an_Lacquer_slack cd_Lacquer_slack ct_Lacquer_slack), sl_Lacquer_slack⟩)
    (e_Lacquer_slack : PySem.W.codeIn K cd_Lacquer_slack "Lacquer.slack" = true)
    (k_Lacquer_slack : PySem.W.keepIn K (.ref f_Lacquer_slack) = true)
    (a_f_ceil_div : PySem.W.nsIn K mainGlobals "ceil_div" = some (some (.ref f_f_ceil_div)))
    (l_f_ceil_div : K.lookup f_f_ceil_div = some ⟨oc_f_ceil_div, od_f_ceil_div, .func (PySem.W.fnOf "ceil_div" "ceil_div" (defArgs s_f_ceil_div) (defBody s_f_ceil_div) (defScope s_f_ceil_div) .none kV_f_ceil_div dc_f_ceil_div pm_f_ceil_div an_f_ceil_div cd_f_ceil_div ct_f_ceil_div), sl_f_ceil_div⟩)
    (e_f_ceil_div : PySem.W.codeIn K cd_f_ceil_div "ceil_div" = true)
    (k_f_ceil_div : PySem.W.keepIn K (.ref f_f_ceil_div) = true)
    (a_Lacquer_spans : PySem.W.findIn K (.ref C_Lacquer) "spans" = some (some (.ref f_Lacquer_spans)))
    (j_Lacquer_spans : PySem.W.isFn K (.ref f_Lacquer_spans) = true)
    (l_Lacquer_spans : K.lookup f_Lacquer_spans = some ⟨oc_Lacquer_spans, od_Lacquer_spans, .func (PySem.W.fnOf "spans" "Lacquer.spans" (defArgs s_Lacquer_spans) (defBody s_Lacquer_spans) (defScope s_Lacquer_spans) .none kV_Lacquer_spans dc_Lacquer_spans pm_Lacquer_spans an_Lacquer_spans cd_Lacquer_spans ct_Lacquer_spans), sl_Lacquer_spans⟩)
    (e_Lacquer_spans : PySem.W.codeIn K cd_Lacquer_spans "Lacquer.spans" = true)
    (k_Lacquer_spans : PySem.W.keepIn K (.ref f_Lacquer_spans) = true)
    (a_Lacquer_lead : PySem.W.findIn K (.ref C_Lacquer) "lead" = some (some (.ref f_Lacquer_lead)))
    (j_Lacquer_lead : PySem.W.isFn K (.ref f_Lacquer_lead) = true)
    (l_Lacquer_lead : K.lookup f_Lacquer_lead = some ⟨oc_Lacquer_lead, od_Lacquer_lead, .func (PySem.W.fnOf "lead" "Lacquer.lead" (defArgs s_Lacquer_lead) (defBody s_Lacquer_lead) (defScope s_Lacquer_lead) .none kV_Lacquer_lead dc_Lacquer_lead pm_Lacquer_lead an_Lacquer_lead cd_Lacquer_lead ct_Lacquer_lead), sl_Lacquer_lead⟩)
    (e_Lacquer_lead : PySem.W.codeIn K cd_Lacquer_lead "Lacquer.lead" = true)
    (k_Lacquer_lead : PySem.W.keepIn K (.ref f_Lacquer_lead) = true)
    (a_f_is_sound_kind : PySem.W.nsIn K mainGlobals "is_sound_kind" = some (some (.ref f_f_is_sound_kind)))
    (l_f_is_sound_kind : K.lookup f_f_is_sound_kind = some ⟨oc_f_is_sound_kind, od_f_is_sound_kind, .func (PySem.W.fnOf "is_sound_kind" "is_sound_kind" (defArgs s_f_is_sound_kind) (defBody s_f_is_sound_kind) (defScope s_f_is_sound_kind) .none kV_f_is_sound_kind dc_f_is_sound_kind pm_f_is_sound_kind an_f_is_sound_kind cd_f_is_sound_kind ct_f_is_sound_kind), sl_f_is_sound_kind⟩)
    (e_f_is_sound_kind : PySem.W.codeIn K cd_f_is_sound_kind "is_sound_kind" = true)
    (k_f_is_sound_kind : PySem.W.keepIn K (.ref f_f_is_sound_kind) = true)
    (a_Climate_iter : PySem.W.findIn K (.ref C_Climate) "__iter__" = some (some (.ref f_Climate_iter)))
    (j_Climate_iter : PySem.W.isFn K (.ref f_Climate_iter) = true)
    (l_Climate_iter : K.lookup f_Climate_iter = some ⟨oc_Climate_iter, od_Climate_iter, .func (PySem.W.fnOf "__iter__" "Climate.__iter__" (defArgs s_Climate_iter) (defBody s_Climate_iter) (defScope s_Climate_iter) .none kV_Climate_iter dc_Climate_iter pm_Climate_iter an_Climate_iter cd_Climate_iter ct_Climate_iter), sl_Climate_iter⟩)
    (e_Climate_iter : PySem.W.codeIn K cd_Climate_iter "Climate.__iter__" = true)
    (k_Climate_iter : PySem.W.keepIn K (.ref f_Climate_iter) = true)
    (a_f_fault : PySem.W.nsIn K mainGlobals "_fault" = some (some (.ref f_f_fault)))
    (l_f_fault : K.lookup f_f_fault = some ⟨oc_f_fault, od_f_fault, .func (PySem.W.fnOf "_fault" "_fault" (defArgs s_f_fault) (defBody s_f_fault) (defScope s_f_fault) .none kV_f_fault dc_f_fault pm_f_fault an_f_fault cd_f_fault ct_f_fault), sl_f_fault⟩)
    (e_f_fault : PySem.W.codeIn K cd_f_fault "_fault" = true)
    (k_f_fault : PySem.W.keepIn K (.ref f_f_fault) = true)
    (a_f_bad_kinds : PySem.W.nsIn K mainGlobals "bad_kinds" = some (some (.ref f_f_bad_kinds)))
    (l_f_bad_kinds : K.lookup f_f_bad_kinds = some ⟨oc_f_bad_kinds, od_f_bad_kinds, .func (PySem.W.fnOf "bad_kinds" "bad_kinds" (defArgs s_f_bad_kinds) (defBody s_f_bad_kinds) (defScope s_f_bad_kinds) .none kV_f_bad_kinds dc_f_bad_kinds pm_f_bad_kinds an_f_bad_kinds cd_f_bad_kinds ct_f_bad_kinds), sl_f_bad_kinds⟩)
    (e_f_bad_kinds : PySem.W.codeIn K cd_f_bad_kinds "bad_kinds" = true)
    (k_f_bad_kinds : PySem.W.keepIn K (.ref f_f_bad_kinds) = true)
    (a_f_is_sound : PySem.W.nsIn K mainGlobals "is_sound" = some (some (.ref f_f_is_sound)))
    (l_f_is_sound : K.lookup f_f_is_sound = some ⟨oc_f_is_sound, od_f_is_sound, .func (PySem.W.fnOf "is_sound" "is_sound" (defArgs s_f_is_sound) (defBody s_f_is_sound) (defScope s_f_is_sound) .none kV_f_is_sound dc_f_is_sound pm_f_is_sound an_f_is_sound cd_f_is_sound ct_f_is_sound), sl_f_is_sound⟩)
    (e_f_is_sound : PySem.W.codeIn K cd_f_is_sound "is_sound" = true)
    (k_f_is_sound : PySem.W.keepIn K (.ref f_f_is_sound) = true)
    (a_f_kind_booking : PySem.W.nsIn K mainGlobals "kind_booking" = some (some (.ref f_f_kind_booking)))
    (l_f_kind_booking : K.lookup f_f_kind_booking = some ⟨oc_f_kind_booking, od_f_kind_booking, .func (PySem.W.fnOf "kind_booking" "kind_booking" (defArgs s_f_kind_booking) (defBody s_f_kind_booking) (defScope s_f_kind_booking) .none kV_f_kind_booking dc_f_kind_booking pm_f_kind_booking an_f_kind_booking cd_f_kind_booking ct_f_kind_booking), sl_f_kind_booking⟩)
    (e_f_kind_booking : PySem.W.codeIn K cd_f_kind_booking "kind_booking" = true)
    (k_f_kind_booking : PySem.W.keepIn K (.ref f_f_kind_booking) = true)
    (a_f_booking_needed : PySem.W.nsIn K mainGlobals "booking_needed" = some (some (.ref f_f_booking_needed)))
    (l_f_booking_needed : K.lookup f_f_booking_needed = some ⟨oc_f_booking_needed, od_f_booking_needed, .func (PySem.W.fnOf "booking_needed" "booking_needed" (defArgs s_f_booking_needed) (defBody s_f_booking_needed) (defScope s_f_booking_needed) .none kV_f_booking_needed dc_f_booking_needed pm_f_booking_needed an_f_booking_needed cd_f_booking_needed ct_f_booking_needed), sl_f_booking_needed⟩)
    (e_f_booking_needed : PySem.W.codeIn K cd_f_booking_needed "booking_needed" = true)
    (k_f_booking_needed : PySem.W.keepIn K (.ref f_f_booking_needed) = true)
    (a_Lacquer_init : PySem.W.findIn K (.ref C_Lacquer) "__init__" = some (some (.ref f_Lacquer_init)))
    (j_Lacquer_init : PySem.W.isFn K (.ref f_Lacquer_init) = true)
    (l_Lacquer_init : K.lookup f_Lacquer_init = some ⟨oc_Lacquer_init, od_Lacquer_init, .func (PySem.W.fnOf "__init__" "Lacquer.__init__" (defArgs s_Lacquer_init) (defBody s_Lacquer_init) (defScope s_Lacquer_init) .none kV_Lacquer_init dc_Lacquer_init pm_Lacquer_init an_Lacquer_init cd_Lacquer_init ct_Lacquer_init), sl_Lacquer_init⟩)
    (e_Lacquer_init : PySem.W.codeIn K cd_Lacquer_init "Lacquer.__init__" = true)
    (k_Lacquer_init : PySem.W.keepIn K (.ref f_Lacquer_init) = true)
    (a_f_check_sight : PySem.W.nsIn K mainGlobals "check_sight" = some (some (.ref f_f_check_sight)))
    (l_f_check_sight : K.lookup f_f_check_sight = some ⟨oc_f_check_sight, od_f_check_sight, .func (PySem.W.fnOf "check_sight" "check_sight" (defArgs s_f_check_sight) (defBody s_f_check_sight) (defScope s_f_check_sight) .none kV_f_check_sight dc_f_check_sight pm_f_check_sight an_f_check_sight cd_f_check_sight ct_f_check_sight), sl_f_check_sight⟩)
    (e_f_check_sight : PySem.W.codeIn K cd_f_check_sight "check_sight" = true)
    (k_f_check_sight : PySem.W.keepIn K (.ref f_f_check_sight) = true)
    (a_Climate_init : PySem.W.findIn K (.ref C_Climate) "__init__" = some (some (.ref f_Climate_init)))
    (j_Climate_init : PySem.W.isFn K (.ref f_Climate_init) = true)
    (l_Climate_init : K.lookup f_Climate_init = some ⟨oc_Climate_init, od_Climate_init, .func (PySem.W.fnOf "__init__" "Climate.__init__" (defArgs s_Climate_init) (defBody s_Climate_init) (defScope s_Climate_init) .none kV_Climate_init dc_Climate_init pm_Climate_init an_Climate_init cd_Climate_init ct_Climate_init), sl_Climate_init⟩)
    (e_Climate_init : PySem.W.codeIn K cd_Climate_init "Climate.__init__" = true)
    (k_Climate_init : PySem.W.keepIn K (.ref f_Climate_init) = true)
    (a_Climate_eq : PySem.W.findIn K (.ref C_Climate) "__eq__" = some (some (.ref f_Climate_eq)))
    (j_Climate_eq : PySem.W.isFn K (.ref f_Climate_eq) = true)
    (l_Climate_eq : K.lookup f_Climate_eq = some ⟨oc_Climate_eq, od_Climate_eq, .func (PySem.W.fnOf "__eq__" "Climate.__eq__" (defArgs s_Climate_eq) (defBody s_Climate_eq) (defScope s_Climate_eq) .none kV_Climate_eq dc_Climate_eq pm_Climate_eq an_Climate_eq cd_Climate_eq ct_Climate_eq), sl_Climate_eq⟩)
    (e_Climate_eq : PySem.W.codeIn K cd_Climate_eq "Climate.__eq__" = true)
    (k_Climate_eq : PySem.W.keepIn K (.ref f_Climate_eq) = true)
    (a_Climate_or : PySem.W.findIn K (.ref C_Climate) "__or__" = some (some (.ref f_Climate_or)))
    (j_Climate_or : PySem.W.isFn K (.ref f_Climate_or) = true)
    (l_Climate_or : K.lookup f_Climate_or = some ⟨oc_Climate_or, od_Climate_or, .func (PySem.W.fnOf "__or__" "Climate.__or__" (defArgs s_Climate_or) (defBody s_Climate_or) (defScope s_Climate_or) .none kV_Climate_or dc_Climate_or pm_Climate_or an_Climate_or cd_Climate_or ct_Climate_or), sl_Climate_or⟩)
    (e_Climate_or : PySem.W.codeIn K cd_Climate_or "Climate.__or__" = true)
    (k_Climate_or : PySem.W.keepIn K (.ref f_Climate_or) = true)
    (a_Climate_and : PySem.W.findIn K (.ref C_Climate) "__and__" = some (some (.ref f_Climate_and)))
    (j_Climate_and : PySem.W.isFn K (.ref f_Climate_and) = true)
    (l_Climate_and : K.lookup f_Climate_and = some ⟨oc_Climate_and, od_Climate_and, .func (PySem.W.fnOf "__and__" "Climate.__and__" (defArgs s_Climate_and) (defBody s_Climate_and) (defScope s_Climate_and) .none kV_Climate_and dc_Climate_and pm_Climate_and an_Climate_and cd_Climate_and ct_Climate_and), sl_Climate_and⟩)
    (e_Climate_and : PySem.W.codeIn K cd_Climate_and "Climate.__and__" = true)
    (k_Climate_and : PySem.W.keepIn K (.ref f_Climate_and) = true)
    (a_Climate_longest : PySem.W.findIn K (.ref C_Climate) "longest" = some (some (.ref f_Climate_longest)))
    (j_Climate_longest : PySem.W.isFn K (.ref f_Climate_longest) = true)
    (l_Climate_longest : K.lookup f_Climate_longest = some ⟨oc_Climate_longest, od_Climate_longest, .func (PySem.W.fnOf "longest" "Climate.longest" (defArgs s_Climate_longest) (defBody s_Climate_longest) (defScope s_Climate_longest) .none kV_Climate_longest dc_Climate_longest pm_Climate_longest an_Climate_longest cd_Climate_longest ct_Climate_longest), sl_Climate_longest⟩)
    (e_Climate_longest : PySem.W.codeIn K cd_Climate_longest "Climate.longest" = true)
    (k_Climate_longest : PySem.W.keepIn K (.ref f_Climate_longest) = true)
    (a_f_top_kinds : PySem.W.nsIn K mainGlobals "_top_kinds" = some (some (.ref f_f_top_kinds)))
    (l_f_top_kinds : K.lookup f_f_top_kinds = some ⟨oc_f_top_kinds, od_f_top_kinds, .func (PySem.W.fnOf "_top_kinds" "_top_kinds" (defArgs s_f_top_kinds) (defBody s_f_top_kinds) (defScope s_f_top_kinds) .none kV_f_top_kinds dc_f_top_kinds pm_f_top_kinds an_f_top_kinds cd_f_top_kinds ct_f_top_kinds), sl_f_top_kinds⟩)
    (e_f_top_kinds : PySem.W.codeIn K cd_f_top_kinds "_top_kinds" = true)
    (k_f_top_kinds : PySem.W.keepIn K (.ref f_f_top_kinds) = true)
    (a_f_greatest_seen : PySem.W.nsIn K mainGlobals "greatest_seen" = some (some (.ref f_f_greatest_seen)))
    (l_f_greatest_seen : K.lookup f_f_greatest_seen = some ⟨oc_f_greatest_seen, od_f_greatest_seen, .func (PySem.W.fnOf "greatest_seen" "greatest_seen" (defArgs s_f_greatest_seen) (defBody s_f_greatest_seen) (defScope s_f_greatest_seen) .none kV_f_greatest_seen dc_f_greatest_seen pm_f_greatest_seen an_f_greatest_seen cd_f_greatest_seen ct_f_greatest_seen), sl_f_greatest_seen⟩)
    (e_f_greatest_seen : PySem.W.codeIn K cd_f_greatest_seen "greatest_seen" = true)
    (k_f_greatest_seen : PySem.W.keepIn K (.ref f_f_greatest_seen) = true)
    (a_f_greatest_booked : PySem.W.nsIn K mainGlobals "greatest_booked" = some (some (.ref f_f_greatest_booked)))
    (l_f_greatest_booked : K.lookup f_f_greatest_booked = some ⟨oc_f_greatest_booked, od_f_greatest_booked, .func (PySem.W.fnOf "greatest_booked" "greatest_booked" (defArgs s_f_greatest_booked) (defBody s_f_greatest_booked) (defScope s_f_greatest_booked) .none kV_f_greatest_booked dc_f_greatest_booked pm_f_greatest_booked an_f_greatest_booked cd_f_greatest_booked ct_f_greatest_booked), sl_f_greatest_booked⟩)
    (e_f_greatest_booked : PySem.W.codeIn K cd_f_greatest_booked "greatest_booked" = true)
    (k_f_greatest_booked : PySem.W.keepIn K (.ref f_f_greatest_booked) = true)
    (a_f_beneath : PySem.W.nsIn K mainGlobals "beneath" = some (some (.ref f_f_beneath)))
    (l_f_beneath : K.lookup f_f_beneath = some ⟨oc_f_beneath, od_f_beneath, .func (PySem.W.fnOf "beneath" "beneath" (defArgs s_f_beneath) (defBody s_f_beneath) (defScope s_f_beneath) .none kV_f_beneath dc_f_beneath pm_f_beneath an_f_beneath cd_f_beneath ct_f_beneath), sl_f_beneath⟩)
    (e_f_beneath : PySem.W.codeIn K cd_f_beneath "beneath" = true)
    (k_f_beneath : PySem.W.keepIn K (.ref f_f_beneath) = true)
    (a_l_cell : PySem.W.nsIn K mainGlobals "_law_cell" = some (some (.ref f_l_cell)))
    (l_l_cell : K.lookup f_l_cell = some ⟨oc_l_cell, od_l_cell, .func (PySem.W.fnOf "_law_cell" "_law_cell" (defArgs s_l_cell) (defBody s_l_cell) (defScope s_l_cell) .none kV_l_cell dc_l_cell pm_l_cell an_l_cell cd_l_cell ct_l_cell), sl_l_cell⟩)
    (e_l_cell : PySem.W.codeIn K cd_l_cell "_law_cell" = true)
    (k_l_cell : PySem.W.keepIn K (.ref f_l_cell) = true)
    (a_l_pool : PySem.W.nsIn K mainGlobals "_law_pool" = some (some (.ref f_l_pool)))
    (l_l_pool : K.lookup f_l_pool = some ⟨oc_l_pool, od_l_pool, .func (PySem.W.fnOf "_law_pool" "_law_pool" (defArgs s_l_pool) (defBody s_l_pool) (defScope s_l_pool) .none kV_l_pool dc_l_pool pm_l_pool an_l_pool cd_l_pool ct_l_pool), sl_l_pool⟩)
    (e_l_pool : PySem.W.codeIn K cd_l_pool "_law_pool" = true)
    (k_l_pool : PySem.W.keepIn K (.ref f_l_pool) = true)
    (a_l_take : PySem.W.nsIn K mainGlobals "_law_take" = some (some (.ref f_l_take)))
    (l_l_take : K.lookup f_l_take = some ⟨oc_l_take, od_l_take, .func (PySem.W.fnOf "_law_take" "_law_take" (defArgs s_l_take) (defBody s_l_take) (defScope s_l_take) .none kV_l_take dc_l_take pm_l_take an_l_take cd_l_take ct_l_take), sl_l_take⟩)
    (e_l_take : PySem.W.codeIn K cd_l_take "_law_take" = true)
    (k_l_take : PySem.W.keepIn K (.ref f_l_take) = true)
    (a_l_up : PySem.W.nsIn K mainGlobals "_law_up" = some (some (.ref f_l_up)))
    (l_l_up : K.lookup f_l_up = some ⟨oc_l_up, od_l_up, .func (PySem.W.fnOf "_law_up" "_law_up" (defArgs s_l_up) (defBody s_l_up) (defScope s_l_up) .none kV_l_up dc_l_up pm_l_up an_l_up cd_l_up ct_l_up), sl_l_up⟩)
    (e_l_up : PySem.W.codeIn K cd_l_up "_law_up" = true)
    (k_l_up : PySem.W.keepIn K (.ref f_l_up) = true)
    (a_l_same : PySem.W.nsIn K mainGlobals "_law_same" = some (some (.ref f_l_same)))
    (l_l_same : K.lookup f_l_same = some ⟨oc_l_same, od_l_same, .func (PySem.W.fnOf "_law_same" "_law_same" (defArgs s_l_same) (defBody s_l_same) (defScope s_l_same) .none kV_l_same dc_l_same pm_l_same an_l_same cd_l_same ct_l_same), sl_l_same⟩)
    (e_l_same : PySem.W.codeIn K cd_l_same "_law_same" = true)
    (k_l_same : PySem.W.keepIn K (.ref f_l_same) = true)
    (a_l_ab : PySem.W.nsIn K mainGlobals "_law_ab" = some (some (.ref f_l_ab)))
    (l_l_ab : K.lookup f_l_ab = some ⟨oc_l_ab, od_l_ab, .func (PySem.W.fnOf "_law_ab" "_law_ab" (defArgs s_l_ab) (defBody s_l_ab) (defScope s_l_ab) .none kV_l_ab dc_l_ab pm_l_ab an_l_ab cd_l_ab ct_l_ab), sl_l_ab⟩)
    (e_l_ab : PySem.W.codeIn K cd_l_ab "_law_ab" = true)
    (k_l_ab : PySem.W.keepIn K (.ref f_l_ab) = true)
    (a_l_kinds : PySem.W.nsIn K mainGlobals "_law_kinds" = some (some (.ref f_l_kinds)))
    (l_l_kinds : K.lookup f_l_kinds = some ⟨oc_l_kinds, od_l_kinds, .func (PySem.W.fnOf "_law_kinds" "_law_kinds" (defArgs s_l_kinds) (defBody s_l_kinds) (defScope s_l_kinds) .none kV_l_kinds dc_l_kinds pm_l_kinds an_l_kinds cd_l_kinds ct_l_kinds), sl_l_kinds⟩)
    (e_l_kinds : PySem.W.codeIn K cd_l_kinds "_law_kinds" = true)
    (k_l_kinds : PySem.W.keepIn K (.ref f_l_kinds) = true)
    (a_l_lead : PySem.W.nsIn K mainGlobals "_law_lead" = some (some (.ref f_l_lead)))
    (l_l_lead : K.lookup f_l_lead = some ⟨oc_l_lead, od_l_lead, .func (PySem.W.fnOf "_law_lead" "_law_lead" (defArgs s_l_lead) (defBody s_l_lead) (defScope s_l_lead) .none kV_l_lead dc_l_lead pm_l_lead an_l_lead cd_l_lead ct_l_lead), sl_l_lead⟩)
    (e_l_lead : PySem.W.codeIn K cd_l_lead "_law_lead" = true)
    (k_l_lead : PySem.W.keepIn K (.ref f_l_lead) = true)
    (a_l_sound_kinds : PySem.W.nsIn K mainGlobals "_law_sound_kinds" = some (some (.ref f_l_sound_kinds)))
    (l_l_sound_kinds : K.lookup f_l_sound_kinds = some ⟨oc_l_sound_kinds, od_l_sound_kinds, .func (PySem.W.fnOf "_law_sound_kinds" "_law_sound_kinds" (defArgs s_l_sound_kinds) (defBody s_l_sound_kinds) (defScope s_l_sound_kinds) .none kV_l_sound_kinds dc_l_sound_kinds pm_l_sound_kinds an_l_sound_kinds cd_l_sound_kinds ct_l_sound_kinds), sl_l_sound_kinds⟩)
    (e_l_sound_kinds : PySem.W.codeIn K cd_l_sound_kinds "_law_sound_kinds" = true)
    (k_l_sound_kinds : PySem.W.keepIn K (.ref f_l_sound_kinds) = true)
    (a_l_least_run : PySem.W.nsIn K mainGlobals "_law_least_run" = some (some (.ref f_l_least_run)))
    (l_l_least_run : K.lookup f_l_least_run = some ⟨oc_l_least_run, od_l_least_run, .func (PySem.W.fnOf "_law_least_run" "_law_least_run" (defArgs s_l_least_run) (defBody s_l_least_run) (defScope s_l_least_run) .none kV_l_least_run dc_l_least_run pm_l_least_run an_l_least_run cd_l_least_run ct_l_least_run), sl_l_least_run⟩)
    (e_l_least_run : PySem.W.codeIn K cd_l_least_run "_law_least_run" = true)
    (k_l_least_run : PySem.W.keepIn K (.ref f_l_least_run) = true)
    (a_l_plain : PySem.W.nsIn K mainGlobals "_law_plain" = some (some (.ref f_l_plain)))
    (l_l_plain : K.lookup f_l_plain = some ⟨oc_l_plain, od_l_plain, .func (PySem.W.fnOf "_law_plain" "_law_plain" (defArgs s_l_plain) (defBody s_l_plain) (defScope s_l_plain) .none kV_l_plain dc_l_plain pm_l_plain an_l_plain cd_l_plain ct_l_plain), sl_l_plain⟩)
    (e_l_plain : PySem.W.codeIn K cd_l_plain "_law_plain" = true)
    (k_l_plain : PySem.W.keepIn K (.ref f_l_plain) = true)
    (a_l_wait : PySem.W.nsIn K mainGlobals "_law_wait" = some (some (.ref f_l_wait)))
    (l_l_wait : K.lookup f_l_wait = some ⟨oc_l_wait, od_l_wait, .func (PySem.W.fnOf "_law_wait" "_law_wait" (defArgs s_l_wait) (defBody s_l_wait) (defScope s_l_wait) .none kV_l_wait dc_l_wait pm_l_wait an_l_wait cd_l_wait ct_l_wait), sl_l_wait⟩)
    (e_l_wait : PySem.W.codeIn K cd_l_wait "_law_wait" = true)
    (k_l_wait : PySem.W.keepIn K (.ref f_l_wait) = true)
    (a_l_booked : PySem.W.nsIn K mainGlobals "_law_booked" = some (some (.ref f_l_booked)))
    (l_l_booked : K.lookup f_l_booked = some ⟨oc_l_booked, od_l_booked, .func (PySem.W.fnOf "_law_booked" "_law_booked" (defArgs s_l_booked) (defBody s_l_booked) (defScope s_l_booked) .none kV_l_booked dc_l_booked pm_l_booked an_l_booked cd_l_booked ct_l_booked), sl_l_booked⟩)
    (e_l_booked : PySem.W.codeIn K cd_l_booked "_law_booked" = true)
    (k_l_booked : PySem.W.keepIn K (.ref f_l_booked) = true)
    (a_l_number : PySem.W.nsIn K mainGlobals "_law_number" = some (some (.ref f_l_number)))
    (l_l_number : K.lookup f_l_number = some ⟨oc_l_number, od_l_number, .func (PySem.W.fnOf "_law_number" "_law_number" (defArgs s_l_number) (defBody s_l_number) (defScope s_l_number) .none kV_l_number dc_l_number pm_l_number an_l_number cd_l_number ct_l_number), sl_l_number⟩)
    (e_l_number : PySem.W.codeIn K cd_l_number "_law_number" = true)
    (k_l_number : PySem.W.keepIn K (.ref f_l_number) = true)
    (a_l_drawn : PySem.W.nsIn K mainGlobals "_law_drawn" = some (some (.ref f_l_drawn)))
    (l_l_drawn : K.lookup f_l_drawn = some ⟨oc_l_drawn, od_l_drawn, .func (PySem.W.fnOf "_law_drawn" "_law_drawn" (defArgs s_l_drawn) (defBody s_l_drawn) (defScope s_l_drawn) .none kV_l_drawn dc_l_drawn pm_l_drawn an_l_drawn cd_l_drawn ct_l_drawn), sl_l_drawn⟩)
    (e_l_drawn : PySem.W.codeIn K cd_l_drawn "_law_drawn" = true)
    (k_l_drawn : PySem.W.keepIn K (.ref f_l_drawn) = true)
    (a_l_ahead : PySem.W.nsIn K mainGlobals "_law_ahead" = some (some (.ref f_l_ahead)))
    (l_l_ahead : K.lookup f_l_ahead = some ⟨oc_l_ahead, od_l_ahead, .func (PySem.W.fnOf "_law_ahead" "_law_ahead" (defArgs s_l_ahead) (defBody s_l_ahead) (defScope s_l_ahead) .none kV_l_ahead dc_l_ahead pm_l_ahead an_l_ahead cd_l_ahead ct_l_ahead), sl_l_ahead⟩)
    (e_l_ahead : PySem.W.codeIn K cd_l_ahead "_law_ahead" = true)
    (k_l_ahead : PySem.W.keepIn K (.ref f_l_ahead) = true)
    (a_l_odd : PySem.W.nsIn K mainGlobals "_law_odd" = some (some (.ref f_l_odd)))
    (l_l_odd : K.lookup f_l_odd = some ⟨oc_l_odd, od_l_odd, .func (PySem.W.fnOf "_law_odd" "_law_odd" (defArgs s_l_odd) (defBody s_l_odd) (defScope s_l_odd) .none kV_l_odd dc_l_odd pm_l_odd an_l_odd cd_l_odd ct_l_odd), sl_l_odd⟩)
    (e_l_odd : PySem.W.codeIn K cd_l_odd "_law_odd" = true)
    (k_l_odd : PySem.W.keepIn K (.ref f_l_odd) = true)
    (a_l_no_kind : PySem.W.nsIn K mainGlobals "_law_no_kind" = some (some (.ref f_l_no_kind)))
    (l_l_no_kind : K.lookup f_l_no_kind = some ⟨oc_l_no_kind, od_l_no_kind, .func (PySem.W.fnOf "_law_no_kind" "_law_no_kind" (defArgs s_l_no_kind) (defBody s_l_no_kind) (defScope s_l_no_kind) .none kV_l_no_kind dc_l_no_kind pm_l_no_kind an_l_no_kind cd_l_no_kind ct_l_no_kind), sl_l_no_kind⟩)
    (e_l_no_kind : PySem.W.codeIn K cd_l_no_kind "_law_no_kind" = true)
    (k_l_no_kind : PySem.W.keepIn K (.ref f_l_no_kind) = true)
    (a_l_no_sight : PySem.W.nsIn K mainGlobals "_law_no_sight" = some (some (.ref f_l_no_sight)))
    (l_l_no_sight : K.lookup f_l_no_sight = some ⟨oc_l_no_sight, od_l_no_sight, .func (PySem.W.fnOf "_law_no_sight" "_law_no_sight" (defArgs s_l_no_sight) (defBody s_l_no_sight) (defScope s_l_no_sight) .none kV_l_no_sight dc_l_no_sight pm_l_no_sight an_l_no_sight cd_l_no_sight ct_l_no_sight), sl_l_no_sight⟩)
    (e_l_no_sight : PySem.W.codeIn K cd_l_no_sight "_law_no_sight" = true)
    (k_l_no_sight : PySem.W.keepIn K (.ref f_l_no_sight) = true)
    (a_l_highest : PySem.W.nsIn K mainGlobals "_law_highest" = some (some (.ref f_l_highest)))
    (l_l_highest : K.lookup f_l_highest = some ⟨oc_l_highest, od_l_highest, .func (PySem.W.fnOf "_law_highest" "_law_highest" (defArgs s_l_highest) (defBody s_l_highest) (defScope s_l_highest) .none kV_l_highest dc_l_highest pm_l_highest an_l_highest cd_l_highest ct_l_highest), sl_l_highest⟩)
    (e_l_highest : PySem.W.codeIn K cd_l_highest "_law_highest" = true)
    (k_l_highest : PySem.W.keepIn K (.ref f_l_highest) = true)
    (a_l_numbers : PySem.W.nsIn K mainGlobals "_law_numbers" = some (some (.ref f_l_numbers)))
    (l_l_numbers : K.lookup f_l_numbers = some ⟨oc_l_numbers, od_l_numbers, .func (PySem.W.fnOf "_law_numbers" "_law_numbers" (defArgs s_l_numbers) (defBody s_l_numbers) (defScope s_l_numbers) .none kV_l_numbers dc_l_numbers pm_l_numbers an_l_numbers cd_l_numbers ct_l_numbers), sl_l_numbers⟩)
    (e_l_numbers : PySem.W.codeIn K cd_l_numbers "_law_numbers" = true)
    (k_l_numbers : PySem.W.keepIn K (.ref f_l_numbers) = true)
    (a_l_tops : PySem.W.nsIn K mainGlobals "_law_tops" = some (some (.ref f_l_tops)))
    (l_l_tops : K.lookup f_l_tops = some ⟨oc_l_tops, od_l_tops, .func (PySem.W.fnOf "_law_tops" "_law_tops" (defArgs s_l_tops) (defBody s_l_tops) (defScope s_l_tops) .none kV_l_tops dc_l_tops pm_l_tops an_l_tops cd_l_tops ct_l_tops), sl_l_tops⟩)
    (e_l_tops : PySem.W.codeIn K cd_l_tops "_law_tops" = true)
    (k_l_tops : PySem.W.keepIn K (.ref f_l_tops) = true)
    (a_l_asked : PySem.W.nsIn K mainGlobals "_law_asked" = some (some (.ref f_l_asked)))
    (l_l_asked : K.lookup f_l_asked = some ⟨oc_l_asked, od_l_asked, .func (PySem.W.fnOf "_law_asked" "_law_asked" (defArgs s_l_asked) (defBody s_l_asked) (defScope s_l_asked) .none kV_l_asked dc_l_asked pm_l_asked an_l_asked cd_l_asked ct_l_asked), sl_l_asked⟩)
    (e_l_asked : PySem.W.codeIn K cd_l_asked "_law_asked" = true)
    (k_l_asked : PySem.W.keepIn K (.ref f_l_asked) = true)
    (a_l_law : PySem.W.nsIn K mainGlobals "law" = some (some (.ref f_l_law)))
    (l_l_law : K.lookup f_l_law = some ⟨oc_l_law, od_l_law, .func (PySem.W.fnOf "law" "law" (defArgs s_l_law) (defBody s_l_law) (defScope s_l_law) .none kV_l_law dc_l_law pm_l_law an_l_law cd_l_law ct_l_law), sl_l_law⟩)
    (e_l_law : PySem.W.codeIn K cd_l_law "law" = true)
    (k_l_law : PySem.W.keepIn K (.ref f_l_law) = true) :
    ∃ fd : FuncData, (∀ (s : Shared) (v : Value), BindsTo s fd ⟨[v], []⟩ [("script", v)]) ∧ ∀ base : Heap, K.In base → base.Ns mainGlobals mg → FnOk l.prog w K mg base CX0 11 fa fd ["script"] (sp_l_law K) := by
  have e := hfa.symm.trans (PySem.W.mg_of X G a_l_law)
  cases e
  have T_BadKind : S_BadKind K mg C_BadKind := ⟨PySem.W.mg_of X G a_BadKind, c_BadKind_x, c_BadKind_kp, c_BadKind_b, c_BadKind_t, c_BadKind_i, c_BadKind_s, c_BadKind_hg, c_BadKind_hk, c_BadKind_hd, c_BadKind_ha, c_BadKind_hn, c_BadKind_ht, c_BadKind_hm⟩
  have T_BadNumber : S_BadNumber K mg C_BadNumber := ⟨PySem.W.mg_of X G a_BadNumber, c_BadNumber_x, c_BadNumber_kp, c_BadNumber_b, c_BadNumber_t, c_BadNumber_i, c_BadNumber_s, c_BadNumber_hg, c_BadNumber_hk, c_BadNumber_hd, c_BadNumber_ha, c_BadNumber_hn, c_BadNumber_ht, c_BadNumber_hm⟩
  have T_Climate : S_Climate K mg C_Climate := ⟨c_Climate_pg, c_Climate_hd, c_Climate_po, c_Climate_sa, PySem.W.mg_of X G a_Climate, c_Climate_sf, c_Climate_nf, c_Climate_ha, c_Climate_hn, c_Climate_ht, c_Climate_hm, c_Climate_kp, c_Climate_mkk, c_Climate_n_kinds⟩
  have T_DampError : S_DampError K mg C_DampError := ⟨PySem.W.mg_of X G a_DampError, c_DampError_x, c_DampError_kp, c_DampError_b, c_DampError_t, c_DampError_i, c_DampError_s, c_DampError_hg, c_DampError_hk, c_DampError_hd, c_DampError_ha, c_DampError_hn, c_DampError_ht, c_DampError_hm⟩
  have T_Lacquer : S_Lacquer K mg C_Lacquer := ⟨c_Lacquer_pg, c_Lacquer_hd, c_Lacquer_po, c_Lacquer_sa, PySem.W.mg_of X G a_Lacquer, c_Lacquer_sf, c_Lacquer_nf, c_Lacquer_ha, c_Lacquer_hn, c_Lacquer_ht, c_Lacquer_hm, c_Lacquer_kp, c_Lacquer_mkk, ⟨_, c_Lacquer_v_MOST, ⟨_, rfl⟩⟩, c_Lacquer_rd, c_Lacquer_ga, c_Lacquer_n_a, c_Lacquer_n_b⟩
  have T_TooLarge : S_TooLarge K mg C_TooLarge := ⟨PySem.W.mg_of X G a_TooLarge, c_TooLarge_x, c_TooLarge_kp, c_TooLarge_b, c_TooLarge_t, c_TooLarge_i, c_TooLarge_s, c_TooLarge_hg, c_TooLarge_hk, c_TooLarge_hd, c_TooLarge_ha, c_TooLarge_hn, c_TooLarge_ht, c_TooLarge_hm⟩
  have z_ValueError : mg "ValueError" = none := PySem.W.mg_none_of X G y_ValueError
  have z_all : mg "all" = none := PySem.W.mg_none_of X G y_all
  have z_bool : mg "bool" = none := PySem.W.mg_none_of X G y_bool
  have z_int : mg "int" = none := PySem.W.mg_none_of X G y_int
  have z_isinstance : mg "isinstance" = none := PySem.W.mg_none_of X G y_isinstance
  have z_iter : mg "iter" = none := PySem.W.mg_none_of X G y_iter
  have z_len : mg "len" = none := PySem.W.mg_none_of X G y_len
  have z_list : mg "list" = none := PySem.W.mg_none_of X G y_list
  have z_max : mg "max" = none := PySem.W.mg_none_of X G y_max
  have z_min : mg "min" = none := PySem.W.mg_none_of X G y_min
  have z_range : mg "range" = none := PySem.W.mg_none_of X G y_range
  have z_sorted : mg "sorted" = none := PySem.W.mg_none_of X G y_sorted
  have z_str : mg "str" = none := PySem.W.mg_none_of X G y_str
  have z_tuple : mg "tuple" = none := PySem.W.mg_none_of X G y_tuple
  have g_CLOSE : ∃ u, mg "CLOSE" = some u ∧ RelV (.str "close") u := ⟨_, PySem.W.mg_of X G y_CLOSE, ⟨_, rfl⟩⟩
  have g_LONG : ∃ u, mg "LONG" = some u ∧ RelV (.str "long") u := ⟨_, PySem.W.mg_of X G y_LONG, ⟨_, rfl⟩⟩
  have g_MOST_KINDS : ∃ u, mg "MOST_KINDS" = some u ∧ RelV (.int 300) u := ⟨_, PySem.W.mg_of X G y_MOST_KINDS, ⟨_, rfl⟩⟩
  have g_MOST_RUN : ∃ u, mg "MOST_RUN" = some u ∧ RelV (.int 120) u := ⟨_, PySem.W.mg_of X G y_MOST_RUN, ⟨_, rfl⟩⟩
  have g_MOST_SPELL : ∃ u, mg "MOST_SPELL" = some u ∧ RelV (.int 16) u := ⟨_, PySem.W.mg_of X G y_MOST_SPELL, ⟨_, rfl⟩⟩
  refine ⟨PySem.W.fnOf "law" "law" (defArgs s_l_law) (defBody s_l_law) (defScope s_l_law) .none kV_l_law dc_l_law pm_l_law an_l_law cd_l_law ct_l_law, fun s v => .of_eq rfl, fun base _ _ => ?_⟩
  have F_f_check_kind := fun_mk (st := s_f_check_kind) l_f_check_kind e_f_check_kind k_f_check_kind
  have b_f_check_kind := F_f_check_kind.binds (ps := ["w", "g"]) fun _ _ _ _ _ _ us hl => match us, hl with | [_, _], _ => rfl
  have m_f_check_kind := PySem.W.mg_of X G a_f_check_kind
  have G_f_check_kind : FnOk l.prog w K mg base (L2.CX l.prog w) 1 f_f_check_kind _ ["w", "g"] (sp_f_check_kind C_BadKind) := ok_f_check_kind F_f_check_kind (T_BadKind := T_BadKind) (g_MOST_RUN := g_MOST_RUN) (g_MOST_SPELL := g_MOST_SPELL)
  have F_f_check_kinds := fun_mk (st := s_f_check_kinds) l_f_check_kinds e_f_check_kinds k_f_check_kinds
  have b_f_check_kinds := F_f_check_kinds.binds (ps := ["kinds"]) fun _ _ _ _ _ _ us hl => match us, hl with | [_], _ => rfl
  have m_f_check_kinds := PySem.W.mg_of X G a_f_check_kinds
  have G_f_check_kinds : FnOk l.prog w K mg base CX0 2 f_f_check_kinds _ ["kinds"] (sp_f_check_kinds K) := ok_f_check_kinds F_f_check_kinds (T_BadKind := T_BadKind) (z_len := z_len) (g_MOST_KINDS := g_MOST_KINDS) (G_f_check_kind := G_f_check_kind) (m_f_check_kind := m_f_check_kind) (k_f_check_kind := k_f_check_kind) (b_f_check_kind := b_f_check_kind)
  have F_f_plain_list := fun_mk (st := s_f_plain_list) l_f_plain_list e_f_plain_list k_f_plain_list
  have b_f_plain_list := F_f_plain_list.binds (ps := ["kinds"]) fun _ _ _ _ _ _ us hl => match us, hl with | [_], _ => rfl
  have m_f_plain_list := PySem.W.mg_of X G a_f_plain_list
  have G_f_plain_list : FnOk l.prog w K mg base CX0 1 f_f_plain_list _ ["kinds"] (sp_f_plain_list K) := ok_f_plain_list F_f_plain_list (z_min := z_min) (z_sorted := z_sorted)
  have F_Lacquer_slack := fun_mk (st := s_Lacquer_slack) l_Lacquer_slack e_Lacquer_slack k_Lacquer_slack
  have b_Lacquer_slack := F_Lacquer_slack.binds (ps := ["self"]) fun _ _ _ _ _ _ us hl => match us, hl with | [_], _ => rfl
  have P_Lacquer_slack : PropOf K C_Lacquer "slack" p_Lacquer_slack f_Lacquer_slack := ⟨a_Lacquer_slack, pg_Lacquer_slack, pt_Lacquer_slack, ⟨rest_Lacquer_slack, pr_Lacquer_slack⟩⟩
  have G_Lacquer_slack : FnOk l.prog w K mg base CX0 1 f_Lacquer_slack _ ["self"] (sp_Lacquer_slack C_Lacquer) := ok_Lacquer_slack F_Lacquer_slack (T_Lacquer := T_Lacquer)
  have F_f_ceil_div := fun_mk (st := s_f_ceil_div) l_f_ceil_div e_f_ceil_div k_f_ceil_div
  have b_f_ceil_div := F_f_ceil_div.binds (ps := ["x", "y"]) fun _ _ _ _ _ _ us hl => match us, hl with | [_, _], _ => rfl
  have m_f_ceil_div := PySem.W.mg_of X G a_f_ceil_div
  have G_f_ceil_div : FnOk l.prog w K mg base CX0 1 f_f_ceil_div _ ["x", "y"] sp_f_ceil_div := ok_f_ceil_div F_f_ceil_div 
  have F_Lacquer_spans := fun_mk (st := s_Lacquer_spans) l_Lacquer_spans e_Lacquer_spans k_Lacquer_spans
  have b_Lacquer_spans := F_Lacquer_spans.binds (ps := ["self", "w"]) fun _ _ _ _ _ _ us hl => match us, hl with | [_, _], _ => rfl
  have M_Lacquer_spans : Meth K C_Lacquer "spans" f_Lacquer_spans := ⟨a_Lacquer_spans, j_Lacquer_spans, k_Lacquer_spans⟩
  have G_Lacquer_spans : FnOk l.prog w K mg base CX0 3 f_Lacquer_spans _ ["self", "w"] (sp_Lacquer_spans C_Lacquer) := ok_Lacquer_spans F_Lacquer_spans (T_Lacquer := T_Lacquer) (G_f_ceil_div := G_f_ceil_div) (m_f_ceil_div := m_f_ceil_div) (k_f_ceil_div := k_f_ceil_div) (b_f_ceil_div := b_f_ceil_div) (G_Lacquer_slack := G_Lacquer_slack) (b_Lacquer_slack := b_Lacquer_slack) (P_Lacquer_slack := P_Lacquer_slack)
  have F_Lacquer_lead := fun_mk (st := s_Lacquer_lead) l_Lacquer_lead e_Lacquer_lead k_Lacquer_lead
  have b_Lacquer_lead := F_Lacquer_lead.binds (ps := ["self", "w"]) fun _ _ _ _ _ _ us hl => match us, hl with | [_, _], _ => rfl
  have M_Lacquer_lead : Meth K C_Lacquer "lead" f_Lacquer_lead := ⟨a_Lacquer_lead, j_Lacquer_lead, k_Lacquer_lead⟩
  have G_Lacquer_lead : FnOk l.prog w K mg base CX0 4 f_Lacquer_lead _ ["self", "w"] (sp_Lacquer_lead C_Lacquer) := ok_Lacquer_lead F_Lacquer_lead (T_Lacquer := T_Lacquer) (G_Lacquer_spans := G_Lacquer_spans) (b_Lacquer_spans := b_Lacquer_spans) (M_Lacquer_spans := M_Lacquer_spans)
  have F_f_is_sound_kind := fun_mk (st := s_f_is_sound_kind) l_f_is_sound_kind e_f_is_sound_kind k_f_is_sound_kind
  have b_f_is_sound_kind := F_f_is_sound_kind.binds (ps := ["lacquer", "w", "g"]) fun _ _ _ _ _ _ us hl => match us, hl with | [_, _, _], _ => rfl
  have m_f_is_sound_kind := PySem.W.mg_of X G a_f_is_sound_kind
  have G_f_is_sound_kind : FnOk l.prog w K mg base CX0 5 f_f_is_sound_kind _ ["lacquer", "w", "g"] (sp_f_is_sound_kind C_Lacquer) := ok_f_is_sound_kind F_f_is_sound_kind (T_Lacquer := T_Lacquer) (G_Lacquer_lead := G_Lacquer_lead) (b_Lacquer_lead := b_Lacquer_lead) (M_Lacquer_lead := M_Lacquer_lead)
  have F_Climate_iter := fun_mk (st := s_Climate_iter) l_Climate_iter e_Climate_iter k_Climate_iter
  have b_Climate_iter := F_Climate_iter.binds (ps := ["self"]) fun _ _ _ _ _ _ us hl => match us, hl with | [_], _ => rfl
  have M_Climate_iter : Meth K C_Climate "__iter__" f_Climate_iter := ⟨a_Climate_iter, j_Climate_iter, k_Climate_iter⟩
  have G_Climate_iter : OW.FnS l.prog w K mg base 1 f_Climate_iter _ ["self"] (sp_Climate_iter K C_Climate) := ok_Climate_iter F_Climate_iter (T_Climate := T_Climate) (z_iter := z_iter)
  have F_f_fault := fun_mk (st := s_f_fault) l_f_fault e_f_fault k_f_fault
  have b_f_fault := F_f_fault.binds (ps := ["lacquer", "w"]) fun _ _ _ _ _ _ us hl => match us, hl with | [_, _], _ => rfl
  have m_f_fault := PySem.W.mg_of X G a_f_fault
  have G_f_fault : FnOk l.prog w K mg base CX0 1 f_f_fault _ ["lacquer", "w"] (sp_f_fault C_Lacquer) := ok_f_fault F_f_fault (T_Lacquer := T_Lacquer) (g_CLOSE := g_CLOSE) (g_LONG := g_LONG)
  have F_f_bad_kinds := fun_mk (st := s_f_bad_kinds) l_f_bad_kinds e_f_bad_kinds k_f_bad_kinds
  have b_f_bad_kinds := F_f_bad_kinds.binds (ps := ["lacquer", "climate"]) fun _ _ _ _ _ _ us hl => match us, hl with | [_, _], _ => rfl
  have m_f_bad_kinds := PySem.W.mg_of X G a_f_bad_kinds
  have G_f_bad_kinds : FnOk l.prog w K mg base CX0 6 f_f_bad_kinds _ ["lacquer", "climate"] (sp_f_bad_kinds C_Lacquer C_Climate) := ok_f_bad_kinds F_f_bad_kinds (T_Climate := T_Climate) (T_Lacquer := T_Lacquer) (G_f_fault := G_f_fault) (m_f_fault := m_f_fault) (k_f_fault := k_f_fault) (b_f_fault := b_f_fault) (G_f_is_sound_kind := G_f_is_sound_kind) (m_f_is_sound_kind := m_f_is_sound_kind) (k_f_is_sound_kind := k_f_is_sound_kind) (b_f_is_sound_kind := b_f_is_sound_kind) (G_Climate_iter := G_Climate_iter) (b_Climate_iter := b_Climate_iter) (M_Climate_iter := M_Climate_iter)
  have F_f_is_sound := fun_mk (st := s_f_is_sound) l_f_is_sound e_f_is_sound k_f_is_sound
  have b_f_is_sound := F_f_is_sound.binds (ps := ["lacquer", "climate"]) fun _ _ _ _ _ _ us hl => match us, hl with | [_, _], _ => rfl
  have m_f_is_sound := PySem.W.mg_of X G a_f_is_sound
  have G_f_is_sound : FnOk l.prog w K mg base CX0 7 f_f_is_sound _ ["lacquer", "climate"] (sp_f_is_sound C_Lacquer C_Climate) := ok_f_is_sound F_f_is_sound (T_Climate := T_Climate) (T_Lacquer := T_Lacquer) (G_f_bad_kinds := G_f_bad_kinds) (m_f_bad_kinds := m_f_bad_kinds) (k_f_bad_kinds := k_f_bad_kinds) (b_f_bad_kinds := b_f_bad_kinds)
  have F_f_kind_booking := fun_mk (st := s_f_kind_booking) l_f_kind_booking e_f_kind_booking k_f_kind_booking
  have b_f_kind_booking := F_f_kind_booking.binds (ps := ["lacquer", "w", "g"]) fun _ _ _ _ _ _ us hl => match us, hl with | [_, _, _], _ => rfl
  have m_f_kind_booking := PySem.W.mg_of X G a_f_kind_booking
  have G_f_kind_booking : FnOk l.prog w K mg base (L2.CX l.prog w) 6 f_f_kind_booking _ ["lacquer", "w", "g"] (sp_f_kind_booking K C_Lacquer C_BadKind) := ok_f_kind_booking F_f_kind_booking (T_BadKind := T_BadKind) (T_Lacquer := T_Lacquer) (z_max := z_max) (z_min := z_min) (G_f_check_kind := G_f_check_kind) (m_f_check_kind := m_f_check_kind) (k_f_check_kind := k_f_check_kind) (b_f_check_kind := b_f_check_kind) (G_f_is_sound_kind := G_f_is_sound_kind) (m_f_is_sound_kind := m_f_is_sound_kind) (k_f_is_sound_kind := k_f_is_sound_kind) (b_f_is_sound_kind := b_f_is_sound_kind) (G_Lacquer_slack := G_Lacquer_slack) (b_Lacquer_slack := b_Lacquer_slack) (P_Lacquer_slack := P_Lacquer_slack) (G_Lacquer_spans := G_Lacquer_spans) (b_Lacquer_spans := b_Lacquer_spans) (M_Lacquer_spans := M_Lacquer_spans)
  have F_f_booking_needed := fun_mk (st := s_f_booking_needed) l_f_booking_needed e_f_booking_needed k_f_booking_needed
  have b_f_booking_needed := F_f_booking_needed.binds (ps := ["lacquer", "climate"]) fun _ _ _ _ _ _ us hl => match us, hl with | [_, _], _ => rfl
  have m_f_booking_needed := PySem.W.mg_of X G a_f_booking_needed
  have G_f_booking_needed : FnOk l.prog w K mg base CX0 8 f_f_booking_needed _ ["lacquer", "climate"] (sp_f_booking_needed K C_Lacquer C_Climate) := ok_f_booking_needed F_f_booking_needed (T_BadKind := T_BadKind) (T_Climate := T_Climate) (T_Lacquer := T_Lacquer) (z_max := z_max) (G_f_is_sound := G_f_is_sound) (m_f_is_sound := m_f_is_sound) (k_f_is_sound := k_f_is_sound) (b_f_is_sound := b_f_is_sound) (G_f_kind_booking := G_f_kind_booking) (m_f_kind_booking := m_f_kind_booking) (k_f_kind_booking := k_f_kind_booking) (b_f_kind_booking := b_f_kind_booking) (G_Climate_iter := G_Climate_iter) (b_Climate_iter := b_Climate_iter) (M_Climate_iter := M_Climate_iter)
  have F_Lacquer_init := fun_mk (st := s_Lacquer_init) l_Lacquer_init e_Lacquer_init k_Lacquer_init
  have b_Lacquer_init := F_Lacquer_init.binds (ps := ["self", "a", "b"]) fun _ _ _ _ _ _ us hl => match us, hl with | [_, _, _], _ => rfl
  have I_Lacquer : Mk K C_Lacquer f_Lacquer_init := ⟨c_Lacquer_mkk, a_Lacquer_init, j_Lacquer_init, c_Lacquer_kp⟩
  have G_Lacquer_init : FnOk l.prog w K mg base CX0 1 f_Lacquer_init _ ["self", "a", "b"] (sp_Lacquer_init C_Lacquer) := ok_Lacquer_init F_Lacquer_init (T_Lacquer := T_Lacquer)
  have F_f_check_sight := fun_mk (st := s_f_check_sight) l_f_check_sight e_f_check_sight k_f_check_sight
  have b_f_check_sight := F_f_check_sight.binds (ps := ["sight"]) fun _ _ _ _ _ _ us hl => match us, hl with | [_], _ => rfl
  have m_f_check_sight := PySem.W.mg_of X G a_f_check_sight
  have G_f_check_sight : FnOk l.prog w K mg base (L2.CX l.prog w) 1 f_f_check_sight _ ["sight"] (sp_f_check_sight C_BadNumber) := ok_f_check_sight F_f_check_sight (T_BadNumber := T_BadNumber)
  have F_Climate_init := fun_mk (st := s_Climate_init) l_Climate_init e_Climate_init k_Climate_init
  have b_Climate_init := F_Climate_init.binds (ps := ["self", "kinds"]) fun _ _ _ _ _ _ us hl => match us, hl with | [_, _], _ => rfl
  have I_Climate : Mk K C_Climate f_Climate_init := ⟨c_Climate_mkk, a_Climate_init, j_Climate_init, c_Climate_kp⟩
  have G_Climate_init : FnOk l.prog w K mg base CX0 3 f_Climate_init _ ["self", "kinds"] (sp_Climate_init K C_Climate) := ok_Climate_init F_Climate_init (T_Climate := T_Climate) (z_tuple := z_tuple) (G_f_check_kinds := G_f_check_kinds) (m_f_check_kinds := m_f_check_kinds) (k_f_check_kinds := k_f_check_kinds) (b_f_check_kinds := b_f_check_kinds) (G_f_plain_list := G_f_plain_list) (m_f_plain_list := m_f_plain_list) (k_f_plain_list := k_f_plain_list) (b_f_plain_list := b_f_plain_list)
  have F_Climate_eq := fun_mk (st := s_Climate_eq) l_Climate_eq e_Climate_eq k_Climate_eq
  have b_Climate_eq := F_Climate_eq.binds (ps := ["self", "other"]) fun _ _ _ _ _ _ us hl => match us, hl with | [_, _], _ => rfl
  have M_Climate_eq : Meth K C_Climate "__eq__" f_Climate_eq := ⟨a_Climate_eq, j_Climate_eq, k_Climate_eq⟩
  have G_Climate_eq : FnOk l.prog w K mg base CX0 1 f_Climate_eq _ ["self", "other"] (sp_Climate_eq K C_Climate) := ok_Climate_eq F_Climate_eq (T_Climate := T_Climate) (z_isinstance := z_isinstance) (kit_Climate_Climate := kit_Climate_Climate)
  have F_Climate_or := fun_mk (st := s_Climate_or) l_Climate_or e_Climate_or k_Climate_or
  have b_Climate_or := F_Climate_or.binds (ps := ["self", "other"]) fun _ _ _ _ _ _ us hl => match us, hl with | [_, _], _ => rfl
  have M_Climate_or : Meth K C_Climate "__or__" f_Climate_or := ⟨a_Climate_or, j_Climate_or, k_Climate_or⟩
  have G_Climate_or : FnOk l.prog w K mg base CX0 5 f_Climate_or _ ["self", "other"] (sp_Climate_or K C_Climate) := ok_Climate_or F_Climate_or (T_Climate := T_Climate) (G_Climate_init := G_Climate_init) (b_Climate_init := b_Climate_init) (I_Climate := I_Climate)
  have F_Climate_and := fun_mk (st := s_Climate_and) l_Climate_and e_Climate_and k_Climate_and
  have b_Climate_and := F_Climate_and.binds (ps := ["self", "other"]) fun _ _ _ _ _ _ us hl => match us, hl with | [_, _], _ => rfl
  have M_Climate_and : Meth K C_Climate "__and__" f_Climate_and := ⟨a_Climate_and, j_Climate_and, k_Climate_and⟩
  have G_Climate_and : FnOk l.prog w K mg base CX0 5 f_Climate_and _ ["self", "other"] (sp_Climate_and K C_Climate) := ok_Climate_and F_Climate_and (T_Climate := T_Climate) (z_max := z_max) (z_min := z_min) (G_Climate_init := G_Climate_init) (b_Climate_init := b_Climate_init) (I_Climate := I_Climate)
  have F_Climate_longest := fun_mk (st := s_Climate_longest) l_Climate_longest e_Climate_longest k_Climate_longest
  have b_Climate_longest := F_Climate_longest.binds (ps := ["self", "run"]) fun _ _ _ _ _ _ us hl => match us, hl with | [_, _], _ => rfl
  have M_Climate_longest : Meth K C_Climate "longest" f_Climate_longest := ⟨a_Climate_longest, j_Climate_longest, k_Climate_longest⟩
  have G_Climate_longest : FnOk l.prog w K mg base CX0 1 f_Climate_longest _ ["self", "run"] (sp_Climate_longest K C_Climate) := ok_Climate_longest F_Climate_longest (T_Climate := T_Climate) (z_max := z_max)
  have F_f_top_kinds := fun_mk (st := s_f_top_kinds) l_f_top_kinds e_f_top_kinds k_f_top_kinds
  have b_f_top_kinds := F_f_top_kinds.binds (ps := ["lacquer"]) fun _ _ _ _ _ _ us hl => match us, hl with | [_], _ => rfl
  have m_f_top_kinds := PySem.W.mg_of X G a_f_top_kinds
  have G_f_top_kinds : FnOk l.prog w K mg base CX0 4 f_f_top_kinds _ ["lacquer"] (sp_f_top_kinds C_Lacquer) := ok_f_top_kinds F_f_top_kinds (T_Lacquer := T_Lacquer) (z_min := z_min) (z_range := z_range) (G_Lacquer_slack := G_Lacquer_slack) (b_Lacquer_slack := b_Lacquer_slack) (P_Lacquer_slack := P_Lacquer_slack) (G_Lacquer_spans := G_Lacquer_spans) (b_Lacquer_spans := b_Lacquer_spans) (M_Lacquer_spans := M_Lacquer_spans)
  have F_f_greatest_seen := fun_mk (st := s_f_greatest_seen) l_f_greatest_seen e_f_greatest_seen k_f_greatest_seen
  have b_f_greatest_seen := F_f_greatest_seen.binds (ps := ["lacquer", "sight"]) fun _ _ _ _ _ _ us hl => match us, hl with | [_, _], _ => rfl
  have m_f_greatest_seen := PySem.W.mg_of X G a_f_greatest_seen
  have G_f_greatest_seen : FnOk l.prog w K mg base (L2.CX l.prog w) 5 f_f_greatest_seen _ ["lacquer", "sight"] (sp_f_greatest_seen K C_Lacquer C_Climate C_BadNumber) := ok_f_greatest_seen F_f_greatest_seen (T_BadNumber := T_BadNumber) (T_Climate := T_Climate) (T_Lacquer := T_Lacquer) (G_f_check_sight := G_f_check_sight) (m_f_check_sight := m_f_check_sight) (k_f_check_sight := k_f_check_sight) (b_f_check_sight := b_f_check_sight) (G_f_top_kinds := G_f_top_kinds) (m_f_top_kinds := m_f_top_kinds) (k_f_top_kinds := k_f_top_kinds) (b_f_top_kinds := b_f_top_kinds) (G_Climate_init := G_Climate_init) (b_Climate_init := b_Climate_init) (I_Climate := I_Climate)
  have F_f_greatest_booked := fun_mk (st := s_f_greatest_booked) l_f_greatest_booked e_f_greatest_booked k_f_greatest_booked
  have b_f_greatest_booked := F_f_greatest_booked.binds (ps := ["lacquer", "sight"]) fun _ _ _ _ _ _ us hl => match us, hl with | [_, _], _ => rfl
  have m_f_greatest_booked := PySem.W.mg_of X G a_f_greatest_booked
  have G_f_greatest_booked : FnOk l.prog w K mg base (L2.CX l.prog w) 7 f_f_greatest_booked _ ["lacquer", "sight"] (sp_f_greatest_booked K C_Lacquer C_Climate C_BadNumber) := ok_f_greatest_booked F_f_greatest_booked (T_BadKind := T_BadKind) (T_BadNumber := T_BadNumber) (T_Climate := T_Climate) (T_Lacquer := T_Lacquer) (z_max := z_max) (z_range := z_range) (G_f_check_sight := G_f_check_sight) (m_f_check_sight := m_f_check_sight) (k_f_check_sight := k_f_check_sight) (b_f_check_sight := b_f_check_sight) (G_f_kind_booking := G_f_kind_booking) (m_f_kind_booking := m_f_kind_booking) (k_f_kind_booking := k_f_kind_booking) (b_f_kind_booking := b_f_kind_booking) (G_Climate_init := G_Climate_init) (b_Climate_init := b_Climate_init) (I_Climate := I_Climate) (G_Lacquer_lead := G_Lacquer_lead) (b_Lacquer_lead := b_Lacquer_lead) (M_Lacquer_lead := M_Lacquer_lead)
  have F_f_beneath := fun_mk (st := s_f_beneath) l_f_beneath e_f_beneath k_f_beneath
  have b_f_beneath := F_f_beneath.binds (ps := ["one", "other"]) fun _ _ _ _ _ _ us hl => match us, hl with | [_, _], _ => rfl
  have m_f_beneath := PySem.W.mg_of X G a_f_beneath
  have G_f_beneath : FnOk l.prog w K mg base CX0 2 f_f_beneath _ ["one", "other"] (sp_f_beneath K C_Climate) := ok_f_beneath F_f_beneath (T_Climate := T_Climate) (z_all := z_all) (G_Climate_iter := G_Climate_iter) (b_Climate_iter := b_Climate_iter) (M_Climate_iter := M_Climate_iter) (G_Climate_longest := G_Climate_longest) (b_Climate_longest := b_Climate_longest) (M_Climate_longest := M_Climate_longest)
  have F_l_cell := fun_mk (st := s_l_cell) l_l_cell e_l_cell k_l_cell
  have b_l_cell := F_l_cell.binds (ps := ["script", "k"]) fun _ _ _ _ _ _ us hl => match us, hl with | [_, _], _ => rfl
  have m_l_cell := PySem.W.mg_of X G a_l_cell
  have G_l_cell : FnOk l.prog w K mg base CX0 1 f_l_cell _ ["script", "k"] (sp_l_cell K) := ok_l_cell F_l_cell (z_len := z_len)
  have F_l_pool := fun_mk (st := s_l_pool) l_l_pool e_l_pool k_l_pool
  have b_l_pool := F_l_pool.binds (ps := ["cell"]) fun _ _ _ _ _ _ us hl => match us, hl with | [_], _ => rfl
  have m_l_pool := PySem.W.mg_of X G a_l_pool
  have G_l_pool : FnOk l.prog w K mg base CX0 1 f_l_pool _ ["cell"] sp_l_pool := ok_l_pool F_l_pool (z_int := z_int)
  have F_l_take := fun_mk (st := s_l_take) l_l_take e_l_take k_l_take
  have b_l_take := F_l_take.binds (ps := ["pool", "size"]) fun _ _ _ _ _ _ us hl => match us, hl with | [_, _], _ => rfl
  have m_l_take := PySem.W.mg_of X G a_l_take
  have G_l_take : FnOk l.prog w K mg base CX0 1 f_l_take _ ["pool", "size"] sp_l_take := ok_l_take F_l_take (z_int := z_int)
  have F_l_up := fun_mk (st := s_l_up) l_l_up e_l_up k_l_up
  have b_l_up := F_l_up.binds (ps := ["x", "y"]) fun _ _ _ _ _ _ us hl => match us, hl with | [_, _], _ => rfl
  have m_l_up := PySem.W.mg_of X G a_l_up
  have G_l_up : FnOk l.prog w K mg base CX0 1 f_l_up _ ["x", "y"] sp_l_up := ok_l_up F_l_up 
  have F_l_same := fun_mk (st := s_l_same) l_l_same e_l_same k_l_same
  have b_l_same := F_l_same.binds (ps := ["actual", "due"]) fun _ _ _ _ _ _ us hl => match us, hl with | [_, _], _ => rfl
  have m_l_same := PySem.W.mg_of X G a_l_same
  have G0_l_same : FnOk l.prog w K mg base CX0 0 f_l_same (PySem.W.fnOf "_law_same" "_law_same" (defArgs s_l_same) (defBody s_l_same) (defScope s_l_same) .none kV_l_same dc_l_same pm_l_same an_l_same cd_l_same ct_l_same) ["actual", "due"] (sp_l_same K 0) := ⟨fun _ _ _ _ z => (zero_l_same z).elim, fun _ _ _ _ _ _ _ _ _ _ _ _ _ z => (zero_l_same z).elim⟩
  have G1_l_same : FnOk l.prog w K mg base CX0 1 f_l_same _ ["actual", "due"] (sp_l_same K 1) := ok_l_same F_l_same (z_bool := z_bool) (z_int := z_int) (z_isinstance := z_isinstance) (z_len := z_len) (z_list := z_list) (z_range := z_range) (z_str := z_str) (z_tuple := z_tuple) (kit_bool_bool := kit_bool_bool) (kit_int_bool := kit_int_bool) (kit_int_int := kit_int_int) (kit_list_bool := kit_list_bool) (kit_list_int := kit_list_int) (kit_list_list := kit_list_list) (kit_list_str := kit_list_str) (kit_list_tuple := kit_list_tuple) (kit_str_bool := kit_str_bool) (kit_str_int := kit_str_int) (kit_str_str := kit_str_str) (kit_tuple_bool := kit_tuple_bool) (kit_tuple_int := kit_tuple_int) (kit_tuple_list := kit_tuple_list) (kit_tuple_str := kit_tuple_str) (kit_tuple_tuple := kit_tuple_tuple) (G_l_same := G0_l_same) (m_l_same := m_l_same) (k_l_same := k_l_same) (b_l_same := b_l_same)
  have G2_l_same : FnOk l.prog w K mg base CX0 2 f_l_same _ ["actual", "due"] (sp_l_same K 2) := ok_l_same F_l_same (z_bool := z_bool) (z_int := z_int) (z_isinstance := z_isinstance) (z_len := z_len) (z_list := z_list) (z_range := z_range) (z_str := z_str) (z_tuple := z_tuple) (kit_bool_bool := kit_bool_bool) (kit_int_bool := kit_int_bool) (kit_int_int := kit_int_int) (kit_list_bool := kit_list_bool) (kit_list_int := kit_list_int) (kit_list_list := kit_list_list) (kit_list_str := kit_list_str) (kit_list_tuple := kit_list_tuple) (kit_str_bool := kit_str_bool) (kit_str_int := kit_str_int) (kit_str_str := kit_str_str) (kit_tuple_bool := kit_tuple_bool) (kit_tuple_int := kit_tuple_int) (kit_tuple_list := kit_tuple_list) (kit_tuple_str := kit_tuple_str) (kit_tuple_tuple := kit_tuple_tuple) (G_l_same := G1_l_same) (m_l_same := m_l_same) (k_l_same := k_l_same) (b_l_same := b_l_same)
  have G3_l_same : FnOk l.prog w K mg base CX0 3 f_l_same _ ["actual", "due"] (sp_l_same K 3) := ok_l_same F_l_same (z_bool := z_bool) (z_int := z_int) (z_isinstance := z_isinstance) (z_len := z_len) (z_list := z_list) (z_range := z_range) (z_str := z_str) (z_tuple := z_tuple) (kit_bool_bool := kit_bool_bool) (kit_int_bool := kit_int_bool) (kit_int_int := kit_int_int) (kit_list_bool := kit_list_bool) (kit_list_int := kit_list_int) (kit_list_list := kit_list_list) (kit_list_str := kit_list_str) (kit_list_tuple := kit_list_tuple) (kit_str_bool := kit_str_bool) (kit_str_int := kit_str_int) (kit_str_str := kit_str_str) (kit_tuple_bool := kit_tuple_bool) (kit_tuple_int := kit_tuple_int) (kit_tuple_list := kit_tuple_list) (kit_tuple_str := kit_tuple_str) (kit_tuple_tuple := kit_tuple_tuple) (G_l_same := G2_l_same) (m_l_same := m_l_same) (k_l_same := k_l_same) (b_l_same := b_l_same)
  have G4_l_same : FnOk l.prog w K mg base CX0 4 f_l_same _ ["actual", "due"] (sp_l_same K 4) := ok_l_same F_l_same (z_bool := z_bool) (z_int := z_int) (z_isinstance := z_isinstance) (z_len := z_len) (z_list := z_list) (z_range := z_range) (z_str := z_str) (z_tuple := z_tuple) (kit_bool_bool := kit_bool_bool) (kit_int_bool := kit_int_bool) (kit_int_int := kit_int_int) (kit_list_bool := kit_list_bool) (kit_list_int := kit_list_int) (kit_list_list := kit_list_list) (kit_list_str := kit_list_str) (kit_list_tuple := kit_list_tuple) (kit_str_bool := kit_str_bool) (kit_str_int := kit_str_int) (kit_str_str := kit_str_str) (kit_tuple_bool := kit_tuple_bool) (kit_tuple_int := kit_tuple_int) (kit_tuple_list := kit_tuple_list) (kit_tuple_str := kit_tuple_str) (kit_tuple_tuple := kit_tuple_tuple) (G_l_same := G3_l_same) (m_l_same := m_l_same) (k_l_same := k_l_same) (b_l_same := b_l_same)
  have G5_l_same : FnOk l.prog w K mg base CX0 5 f_l_same _ ["actual", "due"] (sp_l_same K 5) := ok_l_same F_l_same (z_bool := z_bool) (z_int := z_int) (z_isinstance := z_isinstance) (z_len := z_len) (z_list := z_list) (z_range := z_range) (z_str := z_str) (z_tuple := z_tuple) (kit_bool_bool := kit_bool_bool) (kit_int_bool := kit_int_bool) (kit_int_int := kit_int_int) (kit_list_bool := kit_list_bool) (kit_list_int := kit_list_int) (kit_list_list := kit_list_list) (kit_list_str := kit_list_str) (kit_list_tuple := kit_list_tuple) (kit_str_bool := kit_str_bool) (kit_str_int := kit_str_int) (kit_str_str := kit_str_str) (kit_tuple_bool := kit_tuple_bool) (kit_tuple_int := kit_tuple_int) (kit_tuple_list := kit_tuple_list) (kit_tuple_str := kit_tuple_str) (kit_tuple_tuple := kit_tuple_tuple) (G_l_same := G4_l_same) (m_l_same := m_l_same) (k_l_same := k_l_same) (b_l_same := b_l_same)
  have G_l_same := G5_l_same
  have F_l_ab := fun_mk (st := s_l_ab) l_l_ab e_l_ab k_l_ab
  have b_l_ab := F_l_ab.binds (ps := ["pool", "most"]) fun _ _ _ _ _ _ us hl => match us, hl with | [_, _], _ => rfl
  have m_l_ab := PySem.W.mg_of X G a_l_ab
  have G_l_ab : FnOk l.prog w K mg base CX0 2 f_l_ab _ ["pool", "most"] sp_l_ab := ok_l_ab F_l_ab (G_l_take := G_l_take) (m_l_take := m_l_take) (k_l_take := k_l_take) (b_l_take := b_l_take)
  have F_l_kinds := fun_mk (st := s_l_kinds) l_l_kinds e_l_kinds k_l_kinds
  have b_l_kinds := F_l_kinds.binds (ps := ["pool", "most", "peak", "need"]) fun _ _ _ _ _ _ us hl => match us, hl with | [_, _, _, _], _ => rfl
  have m_l_kinds := PySem.W.mg_of X G a_l_kinds
  have G_l_kinds : FnOk l.prog w K mg base CX0 2 f_l_kinds _ ["pool", "most", "peak", "need"] sp_l_kinds := ok_l_kinds F_l_kinds (z_range := z_range) (G_l_take := G_l_take) (m_l_take := m_l_take) (k_l_take := k_l_take) (b_l_take := b_l_take)
  have F_l_lead := fun_mk (st := s_l_lead) l_l_lead e_l_lead k_l_lead
  have b_l_lead := F_l_lead.binds (ps := ["a", "b", "w"]) fun _ _ _ _ _ _ us hl => match us, hl with | [_, _, _], _ => rfl
  have m_l_lead := PySem.W.mg_of X G a_l_lead
  have G_l_lead : FnOk l.prog w K mg base CX0 2 f_l_lead _ ["a", "b", "w"] sp_l_lead := ok_l_lead F_l_lead (G_l_up := G_l_up) (m_l_up := m_l_up) (k_l_up := k_l_up) (b_l_up := b_l_up)
  have F_l_sound_kinds := fun_mk (st := s_l_sound_kinds) l_l_sound_kinds e_l_sound_kinds k_l_sound_kinds
  have b_l_sound_kinds := F_l_sound_kinds.binds (ps := ["pool", "ab", "most", "peak", "need"]) fun _ _ _ _ _ _ us hl => match us, hl with | [_, _, _, _, _], _ => rfl
  have m_l_sound_kinds := PySem.W.mg_of X G a_l_sound_kinds
  have G_l_sound_kinds : FnOk l.prog w K mg base CX0 3 f_l_sound_kinds _ ["pool", "ab", "most", "peak", "need"] (sp_l_sound_kinds K) := ok_l_sound_kinds F_l_sound_kinds (z_min := z_min) (z_range := z_range) (G_l_lead := G_l_lead) (m_l_lead := m_l_lead) (k_l_lead := k_l_lead) (b_l_lead := b_l_lead) (G_l_take := G_l_take) (m_l_take := m_l_take) (k_l_take := k_l_take) (b_l_take := b_l_take)
  have F_l_least_run := fun_mk (st := s_l_least_run) l_l_least_run e_l_least_run k_l_least_run
  have b_l_least_run := F_l_least_run.binds (ps := ["kinds", "w"]) fun _ _ _ _ _ _ us hl => match us, hl with | [_, _], _ => rfl
  have m_l_least_run := PySem.W.mg_of X G a_l_least_run
  have G_l_least_run : FnOk l.prog w K mg base CX0 1 f_l_least_run _ ["kinds", "w"] (sp_l_least_run K) := ok_l_least_run F_l_least_run 
  have F_l_plain := fun_mk (st := s_l_plain) l_l_plain e_l_plain k_l_plain
  have b_l_plain := F_l_plain.binds (ps := ["kinds"]) fun _ _ _ _ _ _ us hl => match us, hl with | [_], _ => rfl
  have m_l_plain := PySem.W.mg_of X G a_l_plain
  have G_l_plain : FnOk l.prog w K mg base CX0 2 f_l_plain _ ["kinds"] (sp_l_plain K) := ok_l_plain F_l_plain (z_range := z_range) (G_l_least_run := G_l_least_run) (m_l_least_run := m_l_least_run) (k_l_least_run := k_l_least_run) (b_l_least_run := b_l_least_run)
  have F_l_wait := fun_mk (st := s_l_wait) l_l_wait e_l_wait k_l_wait
  have b_l_wait := F_l_wait.binds (ps := ["ab", "w"]) fun _ _ _ _ _ _ us hl => match us, hl with | [_, _], _ => rfl
  have m_l_wait := PySem.W.mg_of X G a_l_wait
  have G_l_wait : FnOk l.prog w K mg base CX0 1 f_l_wait _ ["ab", "w"] (sp_l_wait K) := ok_l_wait F_l_wait (z_range := z_range)
  have F_l_booked := fun_mk (st := s_l_booked) l_l_booked e_l_booked k_l_booked
  have b_l_booked := F_l_booked.binds (ps := ["ab", "kind", "wait", "sight"]) fun _ _ _ _ _ _ us hl => match us, hl with | [_, _, _, _], _ => rfl
  have m_l_booked := PySem.W.mg_of X G a_l_booked
  have G_l_booked : FnOk l.prog w K mg base CX0 1 f_l_booked _ ["ab", "kind", "wait", "sight"] (sp_l_booked K) := ok_l_booked F_l_booked 
  have F_l_number := fun_mk (st := s_l_number) l_l_number e_l_number k_l_number
  have b_l_number := F_l_number.binds (ps := ["ab", "kind"]) fun _ _ _ _ _ _ us hl => match us, hl with | [_, _], _ => rfl
  have m_l_number := PySem.W.mg_of X G a_l_number
  have G_l_number : FnOk l.prog w K mg base CX0 2 f_l_number _ ["ab", "kind"] (sp_l_number K) := ok_l_number F_l_number (z_range := z_range) (G_l_booked := G_l_booked) (m_l_booked := m_l_booked) (k_l_booked := k_l_booked) (b_l_booked := b_l_booked) (G_l_wait := G_l_wait) (m_l_wait := m_l_wait) (k_l_wait := k_l_wait) (b_l_wait := b_l_wait)
  have F_l_drawn := fun_mk (st := s_l_drawn) l_l_drawn e_l_drawn k_l_drawn
  have b_l_drawn := F_l_drawn.binds (ps := ["pool", "ab"]) fun _ _ _ _ _ _ us hl => match us, hl with | [_, _], _ => rfl
  have m_l_drawn := PySem.W.mg_of X G a_l_drawn
  have G_l_drawn : FnOk l.prog w K mg base CX0 4 f_l_drawn _ ["pool", "ab"] (sp_l_drawn K) := ok_l_drawn F_l_drawn (z_max := z_max) (z_min := z_min) (z_range := z_range) (G_l_kinds := G_l_kinds) (m_l_kinds := m_l_kinds) (k_l_kinds := k_l_kinds) (b_l_kinds := b_l_kinds) (G_l_sound_kinds := G_l_sound_kinds) (m_l_sound_kinds := m_l_sound_kinds) (k_l_sound_kinds := k_l_sound_kinds) (b_l_sound_kinds := b_l_sound_kinds) (G_l_take := G_l_take) (m_l_take := m_l_take) (k_l_take := k_l_take) (b_l_take := b_l_take) (G_l_wait := G_l_wait) (m_l_wait := m_l_wait) (k_l_wait := k_l_wait) (b_l_wait := b_l_wait)
  have F_l_ahead := fun_mk (st := s_l_ahead) l_l_ahead e_l_ahead k_l_ahead
  have b_l_ahead := F_l_ahead.binds (ps := ["pool", "ab"]) fun _ _ _ _ _ _ us hl => match us, hl with | [_, _], _ => rfl
  have m_l_ahead := PySem.W.mg_of X G a_l_ahead
  have G_l_ahead : FnOk l.prog w K mg base CX0 3 f_l_ahead _ ["pool", "ab"] (sp_l_ahead K) := ok_l_ahead F_l_ahead (z_min := z_min) (G_l_number := G_l_number) (m_l_number := m_l_number) (k_l_number := k_l_number) (b_l_number := b_l_number) (G_l_take := G_l_take) (m_l_take := m_l_take) (k_l_take := k_l_take) (b_l_take := b_l_take) (G_l_wait := G_l_wait) (m_l_wait := m_l_wait) (k_l_wait := k_l_wait) (b_l_wait := b_l_wait)
  have F_l_odd := fun_mk (st := s_l_odd) l_l_odd e_l_odd k_l_odd
  have b_l_odd := F_l_odd.binds (ps := ["pool"]) fun _ _ _ _ _ _ us hl => match us, hl with | [_], _ => rfl
  have m_l_odd := PySem.W.mg_of X G a_l_odd
  have G_l_odd : FnOk l.prog w K mg base CX0 2 f_l_odd _ ["pool"] sp_l_odd := ok_l_odd F_l_odd (G_l_take := G_l_take) (m_l_take := m_l_take) (k_l_take := k_l_take) (b_l_take := b_l_take)
  have F_l_no_kind := fun_mk (st := s_l_no_kind) l_l_no_kind e_l_no_kind k_l_no_kind
  have b_l_no_kind := F_l_no_kind.binds (ps := ["lacquer", "odd"]) fun _ _ _ _ _ _ us hl => match us, hl with | [_, _], _ => rfl
  have m_l_no_kind := PySem.W.mg_of X G a_l_no_kind
  have G_l_no_kind : FnOk l.prog w K mg base CX0 7 f_l_no_kind _ ["lacquer", "odd"] (sp_l_no_kind C_Lacquer) := ok_l_no_kind F_l_no_kind (T_BadKind := T_BadKind) (T_DampError := T_DampError) (T_Lacquer := T_Lacquer) (T_TooLarge := T_TooLarge) (z_ValueError := z_ValueError) (z_isinstance := z_isinstance) (kit_BadKind_DampError := kit_BadKind_DampError) (kit_BadKind_TooLarge := kit_BadKind_TooLarge) (kit_BadKind_ValueError := kit_BadKind_ValueError) (G_f_kind_booking := G_f_kind_booking) (m_f_kind_booking := m_f_kind_booking) (k_f_kind_booking := k_f_kind_booking) (b_f_kind_booking := b_f_kind_booking)
  have F_l_no_sight := fun_mk (st := s_l_no_sight) l_l_no_sight e_l_no_sight k_l_no_sight
  have b_l_no_sight := F_l_no_sight.binds (ps := ["lacquer", "sight"]) fun _ _ _ _ _ _ us hl => match us, hl with | [_, _], _ => rfl
  have m_l_no_sight := PySem.W.mg_of X G a_l_no_sight
  have G_l_no_sight : FnOk l.prog w K mg base CX0 8 f_l_no_sight _ ["lacquer", "sight"] (sp_l_no_sight C_Lacquer) := ok_l_no_sight F_l_no_sight (T_BadNumber := T_BadNumber) (T_Climate := T_Climate) (T_DampError := T_DampError) (T_Lacquer := T_Lacquer) (T_TooLarge := T_TooLarge) (z_ValueError := z_ValueError) (z_isinstance := z_isinstance) (kit_BadNumber_DampError := kit_BadNumber_DampError) (kit_BadNumber_TooLarge := kit_BadNumber_TooLarge) (kit_BadNumber_ValueError := kit_BadNumber_ValueError) (G_f_greatest_booked := G_f_greatest_booked) (m_f_greatest_booked := m_f_greatest_booked) (k_f_greatest_booked := k_f_greatest_booked) (b_f_greatest_booked := b_f_greatest_booked)
  have F_l_highest := fun_mk (st := s_l_highest) l_l_highest e_l_highest k_l_highest
  have b_l_highest := F_l_highest.binds (ps := ["ab", "sight"]) fun _ _ _ _ _ _ us hl => match us, hl with | [_, _], _ => rfl
  have m_l_highest := PySem.W.mg_of X G a_l_highest
  have G_l_highest : FnOk l.prog w K mg base CX0 3 f_l_highest _ ["ab", "sight"] (sp_l_highest K) := ok_l_highest F_l_highest (z_range := z_range) (G_l_booked := G_l_booked) (m_l_booked := m_l_booked) (k_l_booked := k_l_booked) (b_l_booked := b_l_booked) (G_l_plain := G_l_plain) (m_l_plain := m_l_plain) (k_l_plain := k_l_plain) (b_l_plain := b_l_plain) (G_l_wait := G_l_wait) (m_l_wait := m_l_wait) (k_l_wait := k_l_wait) (b_l_wait := b_l_wait)
  have F_l_numbers := fun_mk (st := s_l_numbers) l_l_numbers e_l_numbers k_l_numbers
  have b_l_numbers := F_l_numbers.binds (ps := ["lacquer", "climate", "ab", "kinds"]) fun _ _ _ _ _ _ us hl => match us, hl with | [_, _, _, _], _ => rfl
  have m_l_numbers := PySem.W.mg_of X G a_l_numbers
  have G_l_numbers : FnOk l.prog w K mg base CX0 9 f_l_numbers _ ["lacquer", "climate", "ab", "kinds"] (sp_l_numbers K C_Lacquer C_Climate) := ok_l_numbers F_l_numbers (T_BadKind := T_BadKind) (T_Climate := T_Climate) (T_Lacquer := T_Lacquer) (z_max := z_max) (G_f_booking_needed := G_f_booking_needed) (m_f_booking_needed := m_f_booking_needed) (k_f_booking_needed := k_f_booking_needed) (b_f_booking_needed := b_f_booking_needed) (G_f_kind_booking := G_f_kind_booking) (m_f_kind_booking := m_f_kind_booking) (k_f_kind_booking := k_f_kind_booking) (b_f_kind_booking := b_f_kind_booking) (G_l_number := G_l_number) (m_l_number := m_l_number) (k_l_number := k_l_number) (b_l_number := b_l_number) (G_l_same := G_l_same) (m_l_same := m_l_same) (k_l_same := k_l_same) (b_l_same := b_l_same)
  have F_l_tops := fun_mk (st := s_l_tops) l_l_tops e_l_tops k_l_tops
  have b_l_tops := F_l_tops.binds (ps := ["lacquer", "climate", "ab", "kinds", "sight"]) fun _ _ _ _ _ _ us hl => match us, hl with | [_, _, _, _, _], _ => rfl
  have m_l_tops := PySem.W.mg_of X G a_l_tops
  have G_l_tops : FnOk l.prog w K mg base CX0 9 f_l_tops _ ["lacquer", "climate", "ab", "kinds", "sight"] (sp_l_tops K C_Lacquer C_Climate) := ok_l_tops F_l_tops (T_BadNumber := T_BadNumber) (T_Climate := T_Climate) (T_Lacquer := T_Lacquer) (z_isinstance := z_isinstance) (z_len := z_len) (z_max := z_max) (z_tuple := z_tuple) (kit_Climate_Climate := kit_Climate_Climate) (G_f_beneath := G_f_beneath) (m_f_beneath := m_f_beneath) (k_f_beneath := k_f_beneath) (b_f_beneath := b_f_beneath) (G_f_booking_needed := G_f_booking_needed) (m_f_booking_needed := m_f_booking_needed) (k_f_booking_needed := k_f_booking_needed) (b_f_booking_needed := b_f_booking_needed) (G_f_greatest_booked := G_f_greatest_booked) (m_f_greatest_booked := m_f_greatest_booked) (k_f_greatest_booked := k_f_greatest_booked) (b_f_greatest_booked := b_f_greatest_booked) (G_f_greatest_seen := G_f_greatest_seen) (m_f_greatest_seen := m_f_greatest_seen) (k_f_greatest_seen := k_f_greatest_seen) (b_f_greatest_seen := b_f_greatest_seen) (G_l_booked := G_l_booked) (m_l_booked := m_l_booked) (k_l_booked := k_l_booked) (b_l_booked := b_l_booked) (G_l_highest := G_l_highest) (m_l_highest := m_l_highest) (k_l_highest := k_l_highest) (b_l_highest := b_l_highest) (G_l_number := G_l_number) (m_l_number := m_l_number) (k_l_number := k_l_number) (b_l_number := b_l_number) (G_l_same := G_l_same) (m_l_same := m_l_same) (k_l_same := k_l_same) (b_l_same := b_l_same) (G_l_wait := G_l_wait) (m_l_wait := m_l_wait) (k_l_wait := k_l_wait) (b_l_wait := b_l_wait)
  have F_l_asked := fun_mk (st := s_l_asked) l_l_asked e_l_asked k_l_asked
  have b_l_asked := F_l_asked.binds (ps := ["ab", "kinds", "sight", "odd"]) fun _ _ _ _ _ _ us hl => match us, hl with | [_, _, _, _], _ => rfl
  have m_l_asked := PySem.W.mg_of X G a_l_asked
  have G_l_asked : FnOk l.prog w K mg base CX0 10 f_l_asked _ ["ab", "kinds", "sight", "odd"] (sp_l_asked K C_Lacquer C_Climate) := ok_l_asked F_l_asked (T_Climate := T_Climate) (T_Lacquer := T_Lacquer) (z_list := z_list) (G_l_no_kind := G_l_no_kind) (m_l_no_kind := m_l_no_kind) (k_l_no_kind := k_l_no_kind) (b_l_no_kind := b_l_no_kind) (G_l_no_sight := G_l_no_sight) (m_l_no_sight := m_l_no_sight) (k_l_no_sight := k_l_no_sight) (b_l_no_sight := b_l_no_sight) (G_l_numbers := G_l_numbers) (m_l_numbers := m_l_numbers) (k_l_numbers := k_l_numbers) (b_l_numbers := b_l_numbers) (G_l_tops := G_l_tops) (m_l_tops := m_l_tops) (k_l_tops := k_l_tops) (b_l_tops := b_l_tops) (G_Climate_init := G_Climate_init) (b_Climate_init := b_Climate_init) (I_Climate := I_Climate) (G_Lacquer_init := G_Lacquer_init) (b_Lacquer_init := b_Lacquer_init) (I_Lacquer := I_Lacquer)
  have F_l_law := fun_mk (st := s_l_law) l_l_law e_l_law k_l_law
  have G_l_law : FnOk l.prog w K mg base CX0 11 fa _ ["script"] (sp_l_law K) := ok_l_law F_l_law (T_Climate := T_Climate) (T_Lacquer := T_Lacquer) (G_l_ab := G_l_ab) (m_l_ab := m_l_ab) (k_l_ab := k_l_ab) (b_l_ab := b_l_ab) (G_l_ahead := G_l_ahead) (m_l_ahead := m_l_ahead) (k_l_ahead := k_l_ahead) (b_l_ahead := b_l_ahead) (G_l_asked := G_l_asked) (m_l_asked := m_l_asked) (k_l_asked := k_l_asked) (b_l_asked := b_l_asked) (G_l_cell := G_l_cell) (m_l_cell := m_l_cell) (k_l_cell := k_l_cell) (b_l_cell := b_l_cell) (G_l_drawn := G_l_drawn) (m_l_drawn := m_l_drawn) (k_l_drawn := k_l_drawn) (b_l_drawn := b_l_drawn) (G_l_odd := G_l_odd) (m_l_odd := m_l_odd) (k_l_odd := k_l_odd) (b_l_odd := b_l_odd) (G_l_pool := G_l_pool) (m_l_pool := m_l_pool) (k_l_pool := k_l_pool) (b_l_pool := b_l_pool)
  exact G_l_law
end DP
open PySem PySem.W PyProof.Rows
set_option maxHeartbeats 0 in
theorem PySem.Challenge.cw_dampspells_k16_bookings_and_tops_holds : PySem.Challenge.rw_dampspells_k16_bookings_and_tops.Holds := by
  w_on; o_law; k_head; (case hw => w_witness2)
  k_fill
  refine L2.walk_of (l := PySem.Challenge.rw_dampspells_k16_bookings_and_tops) (n := 63) (k := 11) (x := "script") (CX := fun _ => L2.CX0) (sp := fun w => DP.sp_l_law _) rfl (by decide) rfl ⟨rfl, by decide, by decide⟩ (fun w h Y => PySem.W.kIn_of Y) ?F (fun _ _ a ns hl _ hS => ⟨a, ns, rfl, hS, hl, fun _ => rfl⟩) (fun _ _ _ _ _ h => h)
  case F =>
    intro w mg fa h KX G hmg
    refine' DP.all_mk KX G hmg ?a_BadKind ?c_BadKind_x ?c_BadKind_kp ?c_BadKind_b ?c_BadKind_t ?c_BadKind_i ?c_BadKind_s ?c_BadKind_hg ?c_BadKind_hk ?c_BadKind_hd ?c_BadKind_ha ?c_BadKind_hn ?c_BadKind_ht ?c_BadKind_hm ?a_BadNumber ?c_BadNumber_x ?c_BadNumber_kp ?c_BadNumber_b ?c_BadNumber_t ?c_BadNumber_i ?c_BadNumber_s ?c_BadNumber_hg ?c_BadNumber_hk ?c_BadNumber_hd ?c_BadNumber_ha ?c_BadNumber_hn ?c_BadNumber_ht ?c_BadNumber_hm ?a_Climate ?c_Climate_pg ?c_Climate_hd ?c_Climate_po ?c_Climate_sa ?c_Climate_sf ?c_Climate_nf ?c_Climate_ha ?c_Climate_hn ?c_Climate_ht ?c_Climate_hm ?c_Climate_kp ?c_Climate_mkk ?c_Climate_n_kinds ?a_DampError ?c_DampError_x ?c_DampError_kp ?c_DampError_b ?c_DampError_t ?c_DampError_i ?c_DampError_s ?c_DampError_hg ?c_DampError_hk ?c_DampError_hd ?c_DampError_ha ?c_DampError_hn ?c_DampError_ht ?c_DampError_hm ?a_Lacquer ?c_Lacquer_pg ?c_Lacquer_hd ?c_Lacquer_po ?c_Lacquer_sa ?c_Lacquer_sf ?c_Lacquer_nf ?c_Lacquer_ha ?c_Lacquer_hn ?c_Lacquer_ht ?c_Lacquer_hm ?c_Lacquer_kp ?c_Lacquer_mkk ?c_Lacquer_v_MOST ?c_Lacquer_rd ?c_Lacquer_ga ?c_Lacquer_n_a ?c_Lacquer_n_b ?a_TooLarge ?c_TooLarge_x ?c_TooLarge_kp ?c_TooLarge_b ?c_TooLarge_t ?c_TooLarge_i ?c_TooLarge_s ?c_TooLarge_hg ?c_TooLarge_hk ?c_TooLarge_hd ?c_TooLarge_ha ?c_TooLarge_hn ?c_TooLarge_ht ?c_TooLarge_hm ?kit_BadKind_DampError ?kit_BadKind_TooLarge ?kit_BadKind_ValueError ?kit_BadNumber_DampError ?kit_BadNumber_TooLarge ?kit_BadNumber_ValueError ?kit_Climate_Climate ?kit_bool_bool ?kit_int_bool ?kit_int_int ?kit_list_bool ?kit_list_int ?kit_list_list ?kit_list_str ?kit_list_tuple ?kit_str_bool ?kit_str_int ?kit_str_str ?kit_tuple_bool ?kit_tuple_int ?kit_tuple_list ?kit_tuple_str ?kit_tuple_tuple ?y_ValueError ?y_all ?y_bool ?y_int ?y_isinstance ?y_iter ?y_len ?y_list ?y_max ?y_min ?y_range ?y_sorted ?y_str ?y_tuple ?y_CLOSE ?y_LONG ?y_MOST_KINDS ?y_MOST_RUN ?y_MOST_SPELL ?a_f_check_kind ?l_f_check_kind ?e_f_check_kind ?k_f_check_kind ?a_f_check_kinds ?l_f_check_kinds ?e_f_check_kinds ?k_f_check_kinds ?a_f_plain_list ?l_f_plain_list ?e_f_plain_list ?k_f_plain_list ?a_Lacquer_slack ?pg_Lacquer_slack ?pt_Lacquer_slack ?pr_Lacquer_slack ?l_Lacquer_slack ?e_Lacquer_slack ?k_Lacquer_slack ?a_f_ceil_div ?l_f_ceil_div ?e_f_ceil_div ?k_f_ceil_div ?a_Lacquer_spans ?j_Lacquer_spans ?l_Lacquer_spans ?e_Lacquer_spans ?k_Lacquer_spans ?a_Lacquer_lead ?j_Lacquer_lead ?l_Lacquer_lead ?e_Lacquer_lead ?k_Lacquer_lead ?a_f_is_sound_kind ?l_f_is_sound_kind ?e_f_is_sound_kind ?k_f_is_sound_kind ?a_Climate_iter ?j_Climate_iter ?l_Climate_iter ?e_Climate_iter ?k_Climate_iter ?a_f_fault ?l_f_fault ?e_f_fault ?k_f_fault ?a_f_bad_kinds ?l_f_bad_kinds ?e_f_bad_kinds ?k_f_bad_kinds ?a_f_is_sound ?l_f_is_sound ?e_f_is_sound ?k_f_is_sound ?a_f_kind_booking ?l_f_kind_booking ?e_f_kind_booking ?k_f_kind_booking ?a_f_booking_needed ?l_f_booking_needed ?e_f_booking_needed ?k_f_booking_needed ?a_Lacquer_init ?j_Lacquer_init ?l_Lacquer_init ?e_Lacquer_init ?k_Lacquer_init ?a_f_check_sight ?l_f_check_sight ?e_f_check_sight ?k_f_check_sight ?a_Climate_init ?j_Climate_init ?l_Climate_init ?e_Climate_init ?k_Climate_init ?a_Climate_eq ?j_Climate_eq ?l_Climate_eq ?e_Climate_eq ?k_Climate_eq ?a_Climate_or ?j_Climate_or ?l_Climate_or ?e_Climate_or ?k_Climate_or ?a_Climate_and ?j_Climate_and ?l_Climate_and ?e_Climate_and ?k_Climate_and ?a_Climate_longest ?j_Climate_longest ?l_Climate_longest ?e_Climate_longest ?k_Climate_longest ?a_f_top_kinds ?l_f_top_kinds ?e_f_top_kinds ?k_f_top_kinds ?a_f_greatest_seen ?l_f_greatest_seen ?e_f_greatest_seen ?k_f_greatest_seen ?a_f_greatest_booked ?l_f_greatest_booked ?e_f_greatest_booked ?k_f_greatest_booked ?a_f_beneath ?l_f_beneath ?e_f_beneath ?k_f_beneath ?a_l_cell ?l_l_cell ?e_l_cell ?k_l_cell ?a_l_pool ?l_l_pool ?e_l_pool ?k_l_pool ?a_l_take ?l_l_take ?e_l_take ?k_l_take ?a_l_up ?l_l_up ?e_l_up ?k_l_up ?a_l_same ?l_l_same ?e_l_same ?k_l_same ?a_l_ab ?l_l_ab ?e_l_ab ?k_l_ab ?a_l_kinds ?l_l_kinds ?e_l_kinds ?k_l_kinds ?a_l_lead ?l_l_lead ?e_l_lead ?k_l_lead ?a_l_sound_kinds ?l_l_sound_kinds ?e_l_sound_kinds ?k_l_sound_kinds ?a_l_least_run ?l_l_least_run ?e_l_least_run ?k_l_least_run ?a_l_plain ?l_l_plain ?e_l_plain ?k_l_plain ?a_l_wait ?l_l_wait ?e_l_wait ?k_l_wait ?a_l_booked ?l_l_booked ?e_l_booked ?k_l_booked ?a_l_number ?l_l_number ?e_l_number ?k_l_number ?a_l_drawn ?l_l_drawn ?e_l_drawn ?k_l_drawn ?a_l_ahead ?l_l_ahead ?e_l_ahead ?k_l_ahead ?a_l_odd ?l_l_odd ?e_l_odd ?k_l_odd ?a_l_no_kind ?l_l_no_kind ?e_l_no_kind ?k_l_no_kind ?a_l_no_sight ?l_l_no_sight ?e_l_no_sight ?k_l_no_sight ?a_l_highest ?l_l_highest ?e_l_highest ?k_l_highest ?a_l_numbers ?l_l_numbers ?e_l_numbers ?k_l_numbers ?a_l_tops ?l_l_tops ?e_l_tops ?k_l_tops ?a_l_asked ?l_l_asked ?e_l_asked ?k_l_asked ?a_l_law ?l_l_law ?e_l_law ?k_l_law
    (case a_BadKind => k_is)
    (case c_BadKind_x => k_exc)
    (case c_BadKind_kp => k_is)
    (case c_BadKind_b => k_is)
    (case c_BadKind_t => k_is)
    (case c_BadKind_i => k_is)
    (case c_BadKind_s => k_is)
    (case c_BadKind_hg => k_is)
    (case c_BadKind_hk => k_is)
    (case c_BadKind_hd => k_is)
    (case c_BadKind_ha => k_is)
    (case c_BadKind_hn => k_is)
    (case c_BadKind_ht => k_is)
    (case c_BadKind_hm => k_is)
    (case a_BadNumber => k_is)
    (case c_BadNumber_x => k_exc)
    (case c_BadNumber_kp => k_is)
    (case c_BadNumber_b => k_is)
    (case c_BadNumber_t => k_is)
    (case c_BadNumber_i => k_is)
    (case c_BadNumber_s => k_is)
    (case c_BadNumber_hg => k_is)
    (case c_BadNumber_hk => k_is)
    (case c_BadNumber_hd => k_is)
    (case c_BadNumber_ha => k_is)
    (case c_BadNumber_hn => k_is)
    (case c_BadNumber_ht => k_is)
    (case c_BadNumber_hm => k_is)
    (case a_Climate => k_is)
    (case c_Climate_pg => k_is)
    (case c_Climate_hd => k_is)
    (case c_Climate_po => k_is)
    (case c_Climate_sa => k_is)
    (case c_Climate_sf => k_is)
    (case c_Climate_nf => k_is)
    (case c_Climate_ha => k_is)
    (case c_Climate_hn => k_is)
    (case c_Climate_ht => k_is)
    (case c_Climate_hm => k_is)
    (case c_Climate_kp => k_is)
    (case c_Climate_mkk => k_is)
    (case c_Climate_n_kinds => k_is)
    (case a_DampError => k_is)
    (case c_DampError_x => k_exc)
    (case c_DampError_kp => k_is)
    (case c_DampError_b => k_is)
    (case c_DampError_t => k_is)
    (case c_DampError_i => k_is)
    (case c_DampError_s => k_is)
    (case c_DampError_hg => k_is)
    (case c_DampError_hk => k_is)
    (case c_DampError_hd => k_is)
    (case c_DampError_ha => k_is)
    (case c_DampError_hn => k_is)
    (case c_DampError_ht => k_is)
    (case c_DampError_hm => k_is)
    (case a_Lacquer => k_is)
    (case c_Lacquer_pg => k_is)
    (case c_Lacquer_hd => k_is)
    (case c_Lacquer_po => k_is)
    (case c_Lacquer_sa => k_is)
    (case c_Lacquer_sf => k_is)
    (case c_Lacquer_nf => k_is)
    (case c_Lacquer_ha => k_is)
    (case c_Lacquer_hn => k_is)
    (case c_Lacquer_ht => k_is)
    (case c_Lacquer_hm => k_is)
    (case c_Lacquer_kp => k_is)
    (case c_Lacquer_mkk => k_is)
    (case c_Lacquer_v_MOST => k_is)
    (case c_Lacquer_rd => k_is)
    (case c_Lacquer_ga => k_is)
    (case c_Lacquer_n_a => k_is)
    (case c_Lacquer_n_b => k_is)
    (case a_TooLarge => k_is)
    (case c_TooLarge_x => k_exc)
    (case c_TooLarge_kp => k_is)
    (case c_TooLarge_b => k_is)
    (case c_TooLarge_t => k_is)
    (case c_TooLarge_i => k_is)
    (case c_TooLarge_s => k_is)
    (case c_TooLarge_hg => k_is)
    (case c_TooLarge_hk => k_is)
    (case c_TooLarge_hd => k_is)
    (case c_TooLarge_ha => k_is)
    (case c_TooLarge_hn => k_is)
    (case c_TooLarge_ht => k_is)
    (case c_TooLarge_hm => k_is)
    (case kit_BadKind_DampError => first | k_is | decide +kernel | rfl)
    (case kit_BadKind_TooLarge => first | k_is | decide +kernel | rfl)
    (case kit_BadKind_ValueError => first | k_is | decide +kernel | rfl)
    (case kit_BadNumber_DampError => first | k_is | decide +kernel | rfl)
    (case kit_BadNumber_TooLarge => first | k_is | decide +kernel | rfl)
    (case kit_BadNumber_ValueError => first | k_is | decide +kernel | rfl)
    (case kit_Climate_Climate => first | k_is | decide +kernel | rfl)
    (case kit_bool_bool => first | k_is | decide +kernel | rfl)
    (case kit_int_bool => first | k_is | decide +kernel | rfl)
    (case kit_int_int => first | k_is | decide +kernel | rfl)
    (case kit_list_bool => first | k_is | decide +kernel | rfl)
    (case kit_list_int => first | k_is | decide +kernel | rfl)
    (case kit_list_list => first | k_is | decide +kernel | rfl)
    (case kit_list_str => first | k_is | decide +kernel | rfl)
    (case kit_list_tuple => first | k_is | decide +kernel | rfl)
    (case kit_str_bool => first | k_is | decide +kernel | rfl)
    (case kit_str_int => first | k_is | decide +kernel | rfl)
    (case kit_str_str => first | k_is | decide +kernel | rfl)
    (case kit_tuple_bool => first | k_is | decide +kernel | rfl)
    (case kit_tuple_int => first | k_is | decide +kernel | rfl)
    (case kit_tuple_list => first | k_is | decide +kernel | rfl)
    (case kit_tuple_str => first | k_is | decide +kernel | rfl)
    (case kit_tuple_tuple => first | k_is | decide +kernel | rfl)
    (case y_ValueError => k_is)
    (case y_all => k_is)
    (case y_bool => k_is)
    (case y_int => k_is)
    (case y_isinstance => k_is)
    (case y_iter => k_is)
    (case y_len => k_is)
    (case y_list => k_is)
    (case y_max => k_is)
    (case y_min => k_is)
    (case y_range => k_is)
    (case y_sorted => k_is)
    (case y_str => k_is)
    (case y_tuple => k_is)
    (case y_CLOSE => k_is)
    (case y_LONG => k_is)
    (case y_MOST_KINDS => k_is)
    (case y_MOST_RUN => k_is)
    (case y_MOST_SPELL => k_is)
    (case a_f_check_kind => k_is)
    (case l_f_check_kind => k_is)
    (case e_f_check_kind => k_is)
    (case k_f_check_kind => k_is)
    (case a_f_check_kinds => k_is)
    (case l_f_check_kinds => k_is)
    (case e_f_check_kinds => k_is)
    (case k_f_check_kinds => k_is)
    (case a_f_plain_list => k_is)
    (case l_f_plain_list => k_is)
    (case e_f_plain_list => k_is)
    (case k_f_plain_list => k_is)
    (case a_Lacquer_slack => k_is)
    (case pg_Lacquer_slack => k_is)
    (case pt_Lacquer_slack => k_is)
    (case pr_Lacquer_slack => k_is)
    (case l_Lacquer_slack => k_is)
    (case e_Lacquer_slack => k_is)
    (case k_Lacquer_slack => k_is)
    (case a_f_ceil_div => k_is)
    (case l_f_ceil_div => k_is)
    (case e_f_ceil_div => k_is)
    (case k_f_ceil_div => k_is)
    (case a_Lacquer_spans => k_is)
    (case j_Lacquer_spans => k_is)
    (case l_Lacquer_spans => k_is)
    (case e_Lacquer_spans => k_is)
    (case k_Lacquer_spans => k_is)
    (case a_Lacquer_lead => k_is)
    (case j_Lacquer_lead => k_is)
    (case l_Lacquer_lead => k_is)
    (case e_Lacquer_lead => k_is)
    (case k_Lacquer_lead => k_is)
    (case a_f_is_sound_kind => k_is)
    (case l_f_is_sound_kind => k_is)
    (case e_f_is_sound_kind => k_is)
    (case k_f_is_sound_kind => k_is)
    (case a_Climate_iter => k_is)
    (case j_Climate_iter => k_is)
    (case l_Climate_iter => k_is)
    (case e_Climate_iter => k_is)
    (case k_Climate_iter => k_is)
    (case a_f_fault => k_is)
    (case l_f_fault => k_is)
    (case e_f_fault => k_is)
    (case k_f_fault => k_is)
    (case a_f_bad_kinds => k_is)
    (case l_f_bad_kinds => k_is)
    (case e_f_bad_kinds => k_is)
    (case k_f_bad_kinds => k_is)
    (case a_f_is_sound => k_is)
    (case l_f_is_sound => k_is)
    (case e_f_is_sound => k_is)
    (case k_f_is_sound => k_is)
    (case a_f_kind_booking => k_is)
    (case l_f_kind_booking => k_is)
    (case e_f_kind_booking => k_is)
    (case k_f_kind_booking => k_is)
    (case a_f_booking_needed => k_is)
    (case l_f_booking_needed => k_is)
    (case e_f_booking_needed => k_is)
    (case k_f_booking_needed => k_is)
    (case a_Lacquer_init => k_is)
    (case j_Lacquer_init => k_is)
    (case l_Lacquer_init => k_is)
    (case e_Lacquer_init => k_is)
    (case k_Lacquer_init => k_is)
    (case a_f_check_sight => k_is)
    (case l_f_check_sight => k_is)
    (case e_f_check_sight => k_is)
    (case k_f_check_sight => k_is)
    (case a_Climate_init => k_is)
    (case j_Climate_init => k_is)
    (case l_Climate_init => k_is)
    (case e_Climate_init => k_is)
    (case k_Climate_init => k_is)
    (case a_Climate_eq => k_is)
    (case j_Climate_eq => k_is)
    (case l_Climate_eq => k_is)
    (case e_Climate_eq => k_is)
    (case k_Climate_eq => k_is)
    (case a_Climate_or => k_is)
    (case j_Climate_or => k_is)
    (case l_Climate_or => k_is)
    (case e_Climate_or => k_is)
    (case k_Climate_or => k_is)
    (case a_Climate_and => k_is)
    (case j_Climate_and => k_is)
    (case l_Climate_and => k_is)
    (case e_Climate_and => k_is)
    (case k_Climate_and => k_is)
    (case a_Climate_longest => k_is)
    (case j_Climate_longest => k_is)
    (case l_Climate_longest => k_is)
    (case e_Climate_longest => k_is)
    (case k_Climate_longest => k_is)
    (case a_f_top_kinds => k_is)
    (case l_f_top_kinds => k_is)
    (case e_f_top_kinds => k_is)
    (case k_f_top_kinds => k_is)
    (case a_f_greatest_seen => k_is)
    (case l_f_greatest_seen => k_is)
    (case e_f_greatest_seen => k_is)
    (case k_f_greatest_seen => k_is)
    (case a_f_greatest_booked => k_is)
    (case l_f_greatest_booked => k_is)
    (case e_f_greatest_booked => k_is)
    (case k_f_greatest_booked => k_is)
    (case a_f_beneath => k_is)
    (case l_f_beneath => k_is)
    (case e_f_beneath => k_is)
    (case k_f_beneath => k_is)
    (case a_l_cell => k_is)
    (case l_l_cell => k_is)
    (case e_l_cell => k_is)
    (case k_l_cell => k_is)
    (case a_l_pool => k_is)
    (case l_l_pool => k_is)
    (case e_l_pool => k_is)
    (case k_l_pool => k_is)
    (case a_l_take => k_is)
    (case l_l_take => k_is)
    (case e_l_take => k_is)
    (case k_l_take => k_is)
    (case a_l_up => k_is)
    (case l_l_up => k_is)
    (case e_l_up => k_is)
    (case k_l_up => k_is)
    (case a_l_same => k_is)
    (case l_l_same => k_is)
    (case e_l_same => k_is)
    (case k_l_same => k_is)
    (case a_l_ab => k_is)
    (case l_l_ab => k_is)
    (case e_l_ab => k_is)
    (case k_l_ab => k_is)
    (case a_l_kinds => k_is)
    (case l_l_kinds => k_is)
    (case e_l_kinds => k_is)
    (case k_l_kinds => k_is)
    (case a_l_lead => k_is)
    (case l_l_lead => k_is)
    (case e_l_lead => k_is)
    (case k_l_lead => k_is)
    (case a_l_sound_kinds => k_is)
    (case l_l_sound_kinds => k_is)
    (case e_l_sound_kinds => k_is)
    (case k_l_sound_kinds => k_is)
    (case a_l_least_run => k_is)
    (case l_l_least_run => k_is)
    (case e_l_least_run => k_is)
    (case k_l_least_run => k_is)
    (case a_l_plain => k_is)
    (case l_l_plain => k_is)
    (case e_l_plain => k_is)
    (case k_l_plain => k_is)
    (case a_l_wait => k_is)
    (case l_l_wait => k_is)
    (case e_l_wait => k_is)
    (case k_l_wait => k_is)
    (case a_l_booked => k_is)
    (case l_l_booked => k_is)
    (case e_l_booked => k_is)
    (case k_l_booked => k_is)
    (case a_l_number => k_is)
    (case l_l_number => k_is)
    (case e_l_number => k_is)
    (case k_l_number => k_is)
    (case a_l_drawn => k_is)
    (case l_l_drawn => k_is)
    (case e_l_drawn => k_is)
    (case k_l_drawn => k_is)
    (case a_l_ahead => k_is)
    (case l_l_ahead => k_is)
    (case e_l_ahead => k_is)
    (case k_l_ahead => k_is)
    (case a_l_odd => k_is)
    (case l_l_odd => k_is)
    (case e_l_odd => k_is)
    (case k_l_odd => k_is)
    (case a_l_no_kind => k_is)
    (case l_l_no_kind => k_is)
    (case e_l_no_kind => k_is)
    (case k_l_no_kind => k_is)
    (case a_l_no_sight => k_is)
    (case l_l_no_sight => k_is)
    (case e_l_no_sight => k_is)
    (case k_l_no_sight => k_is)
    (case a_l_highest => k_is)
    (case l_l_highest => k_is)
    (case e_l_highest => k_is)
    (case k_l_highest => k_is)
    (case a_l_numbers => k_is)
    (case l_l_numbers => k_is)
    (case e_l_numbers => k_is)
    (case k_l_numbers => k_is)
    (case a_l_tops => k_is)
    (case l_l_tops => k_is)
    (case e_l_tops => k_is)
    (case k_l_tops => k_is)
    (case a_l_asked => k_is)
    (case l_l_asked => k_is)
    (case e_l_asked => k_is)
    (case k_l_asked => k_is)
    (case a_l_law => k_is)
    (case l_l_law => k_is)
    (case e_l_law => k_is)
    (case k_l_law => k_is)
