import PyProof.Rows.All
import Wide.All
import OpenK.AllK
import Wide.FinOn
import HandS.ForMost
import HandS.ForExc
import HandS.Wide
import HandS.IsInst
import HandS.Codes
import HandS.Flow
import KE.DataMinMax
import HandS.TupAny
import PyProof.MaxThree
import HandS.Star
import HandS.FStr
import HandS.Property
import HandS.SortKw
import HandS.Defaults
import HandS.ClsMeth
import HandS.SlotsOwn
import HandS.ExcIs
import HandS.Gcd
import HandS.MakeKw
import KE.KOpsOwn
import KE.KOwnIter
import HandS.IterVal
import HandS.RaiseMore
import KE.KExcIs
import HandS.SortInts
import HandS.SortRule
import HandS.TryOnly
import HandS.ExcField
import HandS.Style
import HandS.Dict
import HandS.Text
import KE.DataEq
import PyProof.StrOps2
import HandS.TupLe
import KE.GoesEnum
import KE.GoesMore
import KE.KTupSum
import HandS.Zip
import KE.KExcSuper
import KE.KSuper
import HandS.ExcInit
import HandS.FStrTup
import HandS.OwnIter
import HandS.SetFor
import HandS.Conv
import KE.KCallOwn
import HandS.TupSets
import HandS.Keys
import HandS.Strs
import HandS.Comp
import HandS.SetBool
import HandS.StrMore
import HandS.GenList
import HandS.GenYield
import PySem.Challenge.RW_dampspells_k02_lacquer_numbers
set_option Elab.async false
set_option linter.all false
set_option maxRecDepth 100000
section
namespace PL
open PySem PySem.Spec PyProof.Rows L2
/-- the program's classes -/
inductive Cl
  | DampError | BadRatio | BadLacquer | BadKind | BadWeather | BadHour | BadNumber | BadRow | BadSteps | BadHabit | BadPrice | BadDiary | BadReport | TooLarge | NoWorld
  | BadText | Unsound | Strange | Spoilt | Clash | Refused
  | Ratio | Lacquer | Weather | Climate | StepSet | StepWeb | SkyWeb | Habit | HourWeb | PairWeb | HabitWeb | LongWeather | EndlessRow | Diary | Ledger | Paths | Desk
  deriving DecidableEq, Repr
/-- the fields in the order in which __init__ sets them -/
def Cl.fn : Cl → List Str
  | .BadText => ["at"] | .Unsound => ["kind"] | .Strange => ["hour"] | .Spoilt => ["hour"] | .Clash => ["hour"] | .Refused => ["why"]
  | .Ratio => ["top", "bottom"] | .Lacquer => ["a", "b"] | .Weather => ["lengths"] | .Climate => ["kinds"] | .StepSet => ["steps"] | .StepWeb => ["steps", "climate"] | .SkyWeb => ["climate"]
  | .Habit => ["sight", "rows"] | .LongWeather => ["beginning", "again"] | .Diary => ["marks"]
  | _ => []
/-- values as trees -/
inductive D where
  | non | bl (b : Bool) | int (i : Int) | str (s : Str)
  | tup (xs : List D) | lst (xs : List D) | obj (c : Cl) (xs : List D) | cl (c : Cl) | sq (xs : List D)
  | dK (ks : List Key) (xs : List D) | dT (ks : List (List Key)) (xs : List D)
/-- what a list, an object in the making, a dict holds while it may still change -/
inductive CC where
  | lst (xs : List D) | obj (c : Cl) (kvs : List (Str × D)) | dK (kvs : List (Key × D)) | dT (kvs : List (List Key × D))
/-- own: made here; par: a parameter's -/
inductive CK | own | par
  deriving DecidableEq
def CK.isPar : CK → Bool | .par => true | .own => false
inductive Sl where
  | un | dat (d : D) | cel (k : CK) (c : CC) | exn (c : Cl) (pl : Option D)
inductive Ex (α : Type) | ok (a : α) | er (c : Cl) (pl : Option D)
inductive Rv | d (d : D) | c (c : CC)
inductive Fl | nx | bk | ct | rt (r : Rv)
abbrev M (α : Type) := List Sl → Option (Ex α × List Sl)
abbrev Ev := M Rv
def bnd {α β : Type} (m : M α) (k : α → M β) : M β := fun ρ => match m ρ with
  | some (.ok a, ρ1) => k a ρ1
  | some (.er c pl, ρ1) => some (.er c pl, ρ1)
  | none => none
def pur {α : Type} (a : α) : M α := fun ρ => some (.ok a, ρ)
def fai {α : Type} : M α := fun _ => none
def opt {α : Type} : Option α → M α | some a => pur a | none => fai
def CC.froz : CC → Option D
  | .lst xs => some (.lst xs)
  | .obj c kvs => if kvs.map (·.1) = c.fn then some (.obj c (kvs.map (·.2))) else none
  | .dK kvs => some (.dK (kvs.map (·.1)) (kvs.map (·.2)))
  | .dT kvs => some (.dT (kvs.map (·.1)) (kvs.map (·.2)))
variable (K : PySem.W.Frag) (ad : Cl → Addr)
mutual
inductive Rp (F : Hp) : V → D → Prop
  | non : Rp F .non .non
  | bl (b : Bool) : Rp F (.bl b) (.bl b)
  | int (i : Int) : Rp F (.int i) (.int i)
  | str (s : Str) : Rp F (.str s) (.str s)
  | tup {p : Addr} {vs : List V} {ds : List D} : SqT K F p vs → Rps F vs ds → Rp F (.ref p) (.tup ds)
  | lst {p : Addr} {vs : List V} {ds : List D} : F p = some (.lst vs) → Rps F vs ds → Rp F (.ref p) (.lst ds)
  | sq {p : Addr} {vs : List V} {ds : List D} : SqL K F p vs → Rps F vs ds → Rp F (.ref p) (.sq ds)
  | obj {p dx : Addr} {c : Cl} {vs : List V} {ds : List D} : F p = some (.ins (ad c) dx (c.fn.zip vs)) → c.fn.length = vs.length → Rps F vs ds → Rp F (.ref p) (.obj c ds)
  | cl (c : Cl) : Rp F (.ref (ad c)) (.cl c)
  | dK {p : Addr} {ks : List Key} {vs : List V} {ds : List D} : F p = some (.dK (ks.zip vs)) → ks.length = vs.length → Rps F vs ds → Rp F (.ref p) (.dK ks ds)
  | dT {p : Addr} {ks : List (List Key)} {vs : List V} {ds : List D} : F p = some (.dT (ks.zip vs)) → ks.length = vs.length → Rps F vs ds → Rp F (.ref p) (.dT ks ds)
inductive Rps (F : Hp) : List V → List D → Prop
  | nil : Rps F [] []
  | cons {v : V} {d : D} {vs : List V} {ds : List D} : Rp F v d → Rps F vs ds → Rps F (v :: vs) (d :: ds)
end
variable {K : PySem.W.Frag} {ad : Cl → Addr}
theorem sameT {K : PySem.W.Frag} {H H' : Hp} {a : Addr} {xs : List V} (e : Same H H') (h : SqT K H a xs) : SqT K H' a xs := by
  (rcases h with (h | ⟨o, h⟩) | h)
  · exact .inl (.inl (e _ _ h))
  · (exact .inl (.inr ⟨o, e _ _ h⟩))
  · exact .inr h
mutual
theorem Rp.mono {F F' : Hp} (s : Same F F') : ∀ {v : V} {d : D}, Rp K ad F v d → Rp K ad F' v d
  | _, _, .non => .non
  | _, _, .bl b => .bl b
  | _, _, .int i => .int i
  | _, _, .str x => .str x
  | _, _, .tup h r => .tup (sameT s h) (Rps.mono s r)
  | _, _, .lst h r => .lst (s _ _ h) (Rps.mono s r)
  | _, _, .sq h r => .sq (s.seq h) (Rps.mono s r)
  | _, _, .obj h l r => .obj (s _ _ h) l (Rps.mono s r)
  | _, _, .cl c => .cl c
  | _, _, .dK h l r => .dK (s _ _ h) l (Rps.mono s r)
  | _, _, .dT h l r => .dT (s _ _ h) l (Rps.mono s r)
theorem Rps.mono {F F' : Hp} (s : Same F F') : ∀ {vs : List V} {ds : List D}, Rps K ad F vs ds → Rps K ad F' vs ds
  | _, _, .nil => .nil
  | _, _, .cons h r => .cons (Rp.mono s h) (Rps.mono s r)
end
theorem Rps.len {F : Hp} : ∀ {vs : List V} {ds : List D}, Rps K ad F vs ds → vs.length = ds.length
  | _, _, .nil => rfl
  | _, _, .cons _ r => congrArg (· + 1) r.len
theorem Rps.get {F : Hp} : ∀ {vs : List V} {ds : List D} {i : Nat} {d : D}, Rps K ad F vs ds → ds[i]? = some d → ∃ v, vs[i]? = some v ∧ Rp K ad F v d
  | _, _, _, _, .nil, e =>
    by simp at e
  | _, _, 0, _, .cons h _, e => by simp at e; subst e; exact ⟨_, rfl, h⟩
  | _, _, i + 1, d, .cons _ t, e => by
    obtain ⟨v, h1, h2⟩ := Rps.get (i := i) (d := d) t (by simpa using e)
    exact ⟨v, by simpa using h1, h2⟩
theorem Rps.app {F : Hp} : ∀ {vs : List V} {ds : List D} {us : List V} {es : List D}, Rps K ad F vs ds → Rps K ad F us es → Rps K ad F (vs ++ us) (ds ++ es)
  | _, _, _, _, .nil, s => s
  | _, _, _, _, .cons r t, s => .cons r (Rps.app t s)
theorem Rps.snoc {F : Hp} {vs : List V} {ds : List D} {v : V} {d : D} (h : Rps K ad F vs ds) (r : Rp K ad F v d) : Rps K ad F (vs ++ [v]) (ds ++ [d]) := h.app (.cons r .nil)
theorem Rps.set {F : Hp} {v : V} {d : D} (r : Rp K ad F v d) : ∀ {vs : List V} {ds : List D} (i : Nat), Rps K ad F vs ds → Rps K ad F (vs.set i v) (ds.set i d)
  | _, _, _, .nil => .nil
  | _, _, 0, .cons _ t =>
    .cons r t
  | _, _, i + 1, .cons q t => .cons q (Rps.set r i t)
theorem Rps.take {F : Hp} : ∀ {vs : List V} {ds : List D} (n : Nat), Rps K ad F vs ds → Rps K ad F (vs.take n) (ds.take n)
  | _, _, 0, _ => .nil
  | _, _, _ + 1, .nil => .nil
  | _, _, n + 1, .cons r t => .cons r (Rps.take n t)
theorem Rps.drop {F : Hp} : ∀ {vs : List V} {ds : List D} (n : Nat), Rps K ad F vs ds → Rps K ad F (vs.drop n) (ds.drop n)
  | _, _, 0, r => r
  | _, _, _ + 1, .nil => .nil
  | _, _, n + 1, .cons _ t => Rps.drop n t
theorem Rps.ints {F : Hp} : ∀ {ns : List Int} {vs : List V}, Rps K ad F vs (ns.map D.int) → vs = ns.map V.int
  | [], _, h => by cases h; rfl
  | n :: ns, _, h => by
    rw [List.map_cons] at h
    cases h with
    | cons h t => cases h; rw [List.map_cons, Rps.ints t]
theorem Rps.strs {F : Hp} : ∀ {ns : List Str} {vs : List V}, Rps K ad F vs (ns.map D.str) → vs = ns.map V.str
  | [], _, h => by cases h; rfl
  | n :: ns, _, h => by
    rw [List.map_cons] at h
    cases h with
    | cons h t => cases h; rw [List.map_cons, Rps.strs t]
variable (K ad) in
def CelR (F H : Hp) (p : Addr) : CC → Prop
  | .lst xs => ∃ vs, H p = some (.lst vs) ∧ Rps K ad F vs xs
  | .obj c kvs => ∃ dx vs, H p = some (.ins (ad c) dx ((kvs.map (·.1)).zip vs)) ∧ Rps K ad F vs (kvs.map (·.2))
  | .dK kvs => ∃ vs, H p = some (.dK ((kvs.map (·.1)).zip vs)) ∧ Rps K ad F vs (kvs.map (·.2))
  | .dT kvs => ∃ vs, H p = some (.dT ((kvs.map (·.1)).zip vs)) ∧ Rps K ad F vs (kvs.map (·.2))
theorem CelR.at {F H : Hp} {p : Addr} : ∀ {c : CC}, CelR K ad F H p c → ∃ o, H p = some o
  | .lst _, ⟨_, h, _⟩ => ⟨_, h⟩
  | .obj _ _, ⟨_, _, h, _⟩ => ⟨_, h⟩
  | .dK _, ⟨_, h, _⟩ => ⟨_, h⟩
  | .dT _, ⟨_, h, _⟩ => ⟨_, h⟩
theorem CelR.keep {F F' H H' : Hp} {p : Addr} (s : Same F F') (e : H' p = H p) : ∀ {c : CC}, CelR K ad F H p c → CelR K ad F' H' p c
  | .lst _, ⟨vs, h, r⟩ => ⟨vs, e.trans h, r.mono s⟩
  | .obj _ _, ⟨dx, vs, h, r⟩ => ⟨dx, vs, e.trans h, r.mono s⟩
  | .dK _, ⟨vs, h, r⟩ => ⟨vs, e.trans h, r.mono s⟩
  | .dT _, ⟨vs, h, r⟩ => ⟨vs, e.trans h, r.mono s⟩
/-- frozen: what stands at p is data from now on -/
theorem CelR.froz {F H : Hp} {p : Addr} {d : D} : ∀ {c : CC}, CelR K ad F H p c → c.froz = some d → F p = none → ∃ o, H p = some o ∧ Same F (upd F p o) ∧ Rp K ad (upd F p o) (.ref p) d
  | .lst xs, ⟨vs, h, r⟩, e, n => by
    cases e
    have s : Same F (upd F p (.lst vs)) := fun b u q => by rw [upd_ne (ne_of_none q n)]; exact q
    exact ⟨_, h, s, .lst upd_same (r.mono s)⟩
  | .obj c kvs, ⟨dx, vs, h, r⟩, e, n => by
    have e : (if kvs.map (·.1) = c.fn then some (D.obj c (kvs.map (·.2))) else none) = some d := e
    split at e
    · rename_i q
      cases e
      have s : Same F (upd F p (.ins (ad c) dx ((kvs.map (·.1)).zip vs))) := fun b u q => by rw [upd_ne (ne_of_none q n)]; exact q
      refine ⟨_, h, s, .obj (dx := dx) (vs := vs) ?_ ?_ (r.mono s)⟩
      · rw [upd_same, q]
      · have := r.len
        rw [← q, List.length_map, this, List.length_map]
    · cases e
  | .dK kvs, ⟨vs, h, r⟩, e, n => by
    cases e
    have s : Same F (upd F p (.dK ((kvs.map (·.1)).zip vs))) := fun b u q => by rw [upd_ne (ne_of_none q n)]; exact q
    refine ⟨_, h, s, .dK upd_same ?_ (r.mono s)⟩
    have := r.len
    rw [List.length_map, this, List.length_map]
  | .dT kvs, ⟨vs, h, r⟩, e, n => by
    cases e
    have s : Same F (upd F p (.dT ((kvs.map (·.1)).zip vs))) := fun b u q => by rw [upd_ne (ne_of_none q n)]; exact q
    refine ⟨_, h, s, .dT upd_same ?_ (r.mono s)⟩
    have := r.len
    rw [List.length_map, this, List.length_map]
/-- the frame: what must stay, what was data at the start, the parameters that may change, the handled exception -/
structure Fr where
  P : Hp
  F0 : Hp
  pa : Nat → Option Addr
/-- the classes' places, and the exception that a suite holds -/
structure CT where
  ad : Cl → Addr
  ea : Addr := 0
  ecl : Value := .none
  ed : Option Addr := none
abbrev cx (ad : Cl → Addr) : CT := { ad := ad }
variable {ct : CT}
variable (K ad) in
def PlR (F : Hp) (c : Cl) : Option D → Option Addr → Prop
  | none, d => d = none
  | some x, d => ∃ a f v, d = some a ∧ c.fn = [f] ∧ F a = some (.xd [(f, v)]) ∧ Rp K ad F v x
theorem PlR.mono {F F' : Hp} (s : Same F F') {c : Cl} {d : Option Addr} : ∀ {pl : Option D}, PlR K ad F c pl d → PlR K ad F' c pl d
  | none, h => h
  | some _, ⟨a, f, v, h1, h2, h3, h4⟩ => ⟨a, f, v, h1, h2, s _ _ h3, h4.mono s⟩
variable (K ct) in
def SlR (fr : Fr) (F H : Hp) (i : Nat) (o : Option V) : Sl → Prop
  | .un => True
  | .dat d => ∃ v, o = some v ∧ Rp K ct.ad F v d
  | .cel k c => ∃ p, o = some (.ref p) ∧ F p = none ∧ fr.P p = none ∧ (k.isPar = true → fr.pa i = some p) ∧ (k.isPar = false → ∀ j, fr.pa j ≠ some p) ∧ CelR K ct.ad F H p c
  | .exn c pl => o = some (.ref ct.ea) ∧ ct.ecl = .ref (ct.ad c) ∧ PlR K ct.ad F c pl ct.ed
variable (K ct) in
structure Rel (fr : Fr) (F H : Hp) (σ : L2.St) (ρ : List Sl) : Prop where
  len : σ.length = ρ.length
  fh : Same F H
  slot : ∀ (i : Nat) (s : Sl), ρ[i]? = some s → ∃ o, σ[i]? = some o ∧ SlR K ct fr F H i o s
  dis : ∀ (i j : Nat) (k : CK) (c : CC) (k' : CK) (c' : CC) (p : Addr), ρ[i]? = some (.cel k c) → ρ[j]? = some (.cel k' c') → σ[i]? = some (some (.ref p)) → σ[j]? = some (some (.ref p)) → i = j
  keep : Same fr.P H
  fro : ∀ b, fr.P b ≠ none → fr.F0 b = none → F b = none
  pcs : ∀ (i : Nat) (p : Addr), fr.pa i = some p → ∃ k c, ρ[i]? = some (.cel k c) ∧ k.isPar = true
variable (K ad) in
/-- a new cell that no slot has -/
def Fresh (fr : Fr) (F H : Hp) (σ : L2.St) (ρ : List Sl) (p : Addr) (c : CC) : Prop :=
  F p = none ∧ fr.P p = none ∧ (∀ j, fr.pa j ≠ some p) ∧ CelR K ad F H p c ∧ ∀ (i : Nat) (k : CK) (c' : CC), ρ[i]? = some (.cel k c') → σ[i]? ≠ some (some (.ref p))
section
variable {fr : Fr} {F F' H H' : Hp} {σ : L2.St} {ρ : List Sl}
/-- the heaps grow -/
theorem Rel.grow (S : Rel K ct fr F H σ ρ) (f : Same F F') (h : Same H H') (fh : Same F' H') (n : ∀ b, H b ≠ none → F b = none → F' b = none) : Rel K ct fr F' H' σ ρ := by
  refine ⟨S.len, fh, fun i s e => ?_, S.dis, S.keep.trans h, fun b hb h0 => n b (fun z => ?_) (S.fro b hb h0), S.pcs⟩
  · obtain ⟨o, e1, r⟩ := S.slot i s e
    refine ⟨o, e1, ?_⟩
    cases s with
    | un => trivial
    | dat d => obtain ⟨v, e2, r⟩ := r; exact ⟨v, e2, r.mono f⟩
    | cel k c =>
      obtain ⟨p, e2, e3, e4, e5, e6, r⟩ := r
      obtain ⟨o', ho⟩ := r.at
      refine ⟨p, e2, n p (by rw [ho]; simp) e3, e4, e5, e6, r.keep f ?_⟩
      rw [h _ _ ho, ho]
    | exn c pl => exact ⟨r.1, r.2.1, r.2.2.mono f⟩
  · cases q : fr.P b with
    | none => exact hb q
    | some o => rw [S.keep b o q] at z; cases z
theorem Fresh.grow {p : Addr} {c : CC} (S : Fresh K ad fr F H σ ρ p c) (f : Same F F') (h : Same H H') (n : ∀ b, H b ≠ none → F b = none → F' b = none) : Fresh K ad fr F' H' σ ρ p c := by
  obtain ⟨h1, h2, h3, h4, h5⟩ := S
  obtain ⟨o', ho⟩ := h4.at
  exact ⟨n p (by rw [ho]; simp) h1, h2, h3, h4.keep f (by rw [h _ _ ho, ho]), h5⟩
theorem Rel.nn (S : Rel K ct fr F H σ ρ) {p : Addr} (h : H p = none) : F p = none := by
  cases q : F p with
  | none => rfl
  | some o => rw [S.fh p o q] at h; cases h
theorem Rel.np (S : Rel K ct fr F H σ ρ) {p : Addr} (h : H p = none) : fr.P p = none := by
  cases q : fr.P p with
  | none => rfl
  | some o => rw [S.keep p o q] at h; cases h
theorem same_up {H : Hp} {p : Addr} {o : HO} (h : H p = none) : Same H (upd H p o) := fun b u e => by
  rw [upd_ne (ne_of_none e h)]
  exact e
/-- a new object, data at once -/
theorem Rel.newD (S : Rel K ct fr F H σ ρ) {p : Addr} {o : HO} (h : H p = none) : Rel K ct fr (upd F p o) (upd H p o) σ ρ := by
  refine S.grow (same_up (S.nn h)) (same_up h) (fun b u e => ?_) fun b hb e => ?_
  · by_cases q : b = p
    · subst q; rw [upd_same] at e; rw [upd_same]; exact e
    · rw [upd_ne q] at e; rw [upd_ne q]; exact S.fh _ _ e
  · rw [upd_ne (fun q => hb (by rw [q]; exact h))]
    exact e
/-- a new object, not yet data -/
theorem Rel.newC (S : Rel K ct fr F H σ ρ) {p : Addr} {o : HO} (h : H p = none) : Rel K ct fr F (upd H p o) σ ρ :=
  S.grow (Same.refl _) (same_up h) (S.fh.trans (same_up h)) fun _ _ e => e
theorem Rel.cell_at (S : Rel K ct fr F H σ ρ) {i : Nat} {k : CK} {c : CC} (e : ρ[i]? = some (.cel k c)) : ∃ p o, σ[i]? = some (some (.ref p)) ∧ H p = some o := by
  obtain ⟨o, e1, p, e2, _, _, _, _, r⟩ := S.slot i _ e
  obtain ⟨o', ho⟩ := r.at
  exact ⟨p, o', by rw [e1, e2], ho⟩
theorem Rel.fresh (S : Rel K ct fr F H σ ρ) {p : Addr} {o : HO} {c : CC} (h : H p = none) (r : CelR K ct.ad F (upd H p o) p c) : Fresh K ct.ad fr F (upd H p o) σ ρ p c := by
  refine ⟨S.nn h, S.np h, fun j e => ?_, r, fun i k c' e1 e2 => ?_⟩
  · obtain ⟨k, c, e1, hk⟩ := S.pcs j p e
    obtain ⟨o1, _, p', rfl, _, _, e5, e6, r'⟩ := S.slot j _ e1
    obtain ⟨o', ho⟩ := r'.at
    have z := e5 hk
    rw [e] at z
    cases z
    rw [h] at ho
    cases ho
  · obtain ⟨p', o', e3, ho⟩ := S.cell_at e1
    rw [e3] at e2
    cases e2
    rw [h] at ho
    cases ho
/-- a slot gets data -/
theorem Rel.setD (S : Rel K ct fr F H σ ρ) {i : Nat} {v : V} {d : D} (r : Rp K ct.ad F v d) (np : fr.pa i = none) : Rel K ct fr F H (σ.set i (some v)) (ρ.set i (.dat d)) := by
  have dn : ∀ {j : Nat} {k : CK} {c : CC}, (ρ.set i (.dat d))[j]? = some (.cel k c) → j ≠ i ∧ ρ[j]? = some (.cel k c) := fun {j k c} e => by
    by_cases q : i = j
    · subst q
      by_cases l : i < ρ.length
      · rw [List.getElem?_set_self l] at e; cases e
      · rw [List.getElem?_eq_none (by simp; omega)] at e; cases e
    · rw [List.getElem?_set_ne q] at e; exact ⟨fun z => q z.symm, e⟩
  refine ⟨by simp [S.len], S.fh, fun j s e => ?_, fun a b k c k' c' p e1 e2 e3 e4 => ?_, S.keep, S.fro, fun j p e => ?_⟩
  · by_cases q : i = j
    · subst q
      by_cases l : i < ρ.length
      · rw [List.getElem?_set_self l] at e
        cases e
        exact ⟨some v, by rw [List.getElem?_set_self (by rw [S.len]; exact l)], v, rfl, r⟩
      · rw [List.getElem?_eq_none (by simp; omega)] at e; cases e
    · rw [List.getElem?_set_ne q] at e
      obtain ⟨o, h1, h2⟩ := S.slot j s e
      exact ⟨o, by rw [List.getElem?_set_ne q]; exact h1, h2⟩
  · obtain ⟨n1, f1⟩ := dn e1
    obtain ⟨n2, f2⟩ := dn e2
    rw [List.getElem?_set_ne (Ne.symm n1)] at e3
    rw [List.getElem?_set_ne (Ne.symm n2)] at e4
    exact S.dis a b k c k' c' p f1 f2 e3 e4
  · obtain ⟨k, c, h1, h2⟩ := S.pcs j p e
    refine ⟨k, c, ?_, h2⟩
    rw [List.getElem?_set_ne (fun q => by rw [q, e] at np; cases np)]
    exact h1
/-- a slot is forgotten, what stands there stays -/
theorem Rel.setU (S : Rel K ct fr F H σ ρ) {i : Nat} (np : fr.pa i = none) {w : Option V} : Rel K ct fr F H (σ.set i w) (ρ.set i .un) := by
  have dn : ∀ {j : Nat} {k : CK} {c : CC}, (ρ.set i .un)[j]? = some (.cel k c) → j ≠ i ∧ ρ[j]? = some (.cel k c) := fun {j k c} e => by
    by_cases q : i = j
    · subst q
      by_cases l : i < ρ.length
      · rw [List.getElem?_set_self l] at e; cases e
      · rw [List.getElem?_eq_none (by simp; omega)] at e; cases e
    · rw [List.getElem?_set_ne q] at e; exact ⟨fun z => q z.symm, e⟩
  refine ⟨by simp [S.len], S.fh, fun j s e => ?_, fun a b k c k' c' p e1 e2 e3 e4 => ?_, S.keep, S.fro, fun j p e => ?_⟩
  · by_cases q : i = j
    · subst q
      by_cases l : i < ρ.length
      · rw [List.getElem?_set_self l] at e
        cases e
        exact ⟨w, by rw [List.getElem?_set_self (by rw [S.len]; exact l)], trivial⟩
      · rw [List.getElem?_eq_none (by simp; omega)] at e; cases e
    · rw [List.getElem?_set_ne q] at e
      obtain ⟨o, h1, h2⟩ := S.slot j s e
      exact ⟨o, by rw [List.getElem?_set_ne q]; exact h1, h2⟩
  · obtain ⟨n1, f1⟩ := dn e1
    obtain ⟨n2, f2⟩ := dn e2
    rw [List.getElem?_set_ne (Ne.symm n1)] at e3
    rw [List.getElem?_set_ne (Ne.symm n2)] at e4
    exact S.dis a b k c k' c' p f1 f2 e3 e4
  · obtain ⟨k, c, h1, h2⟩ := S.pcs j p e
    refine ⟨k, c, ?_, h2⟩
    rw [List.getElem?_set_ne (fun q => by rw [q, e] at np; cases np)]
    exact h1
theorem set_id {α : Type} {xs : List α} {i : Nat} {x : α} (h : xs[i]? = some x) : xs.set i x = xs := by
  (refine List.ext_getElem? fun j => ?_)
  by_cases q : i = j
  · subst q
    rw [List.getElem?_set_self (List.getElem?_eq_some_iff.mp h).1, h]
  · rw [List.getElem?_set_ne q]
/-- a slot is forgotten -/
theorem Rel.unR (S : Rel K ct fr F H σ ρ) {i : Nat} (np : fr.pa i = none) : Rel K ct fr F H σ (ρ.set i .un) := by
  by_cases l : i < σ.length
  · have e : σ.set i σ[i] = σ := set_id (List.getElem?_eq_getElem l)
    have := S.setU (w := σ[i]) np
    rw [e] at this
    exact this
  · rw [List.set_eq_of_length_le (by rw [← S.len]; omega)]
    exact S
/-- a slot gets a cell that nobody has -/
theorem Rel.setC (S : Rel K ct fr F H σ ρ) {i : Nat} {p : Addr} {c : CC} (r : Fresh K ct.ad fr F H σ ρ p c) (np : fr.pa i = none) : Rel K ct fr F H (σ.set i (some (.ref p))) (ρ.set i (.cel .own c)) := by
  obtain ⟨r1, r2, r3, r4, r5⟩ := r
  have dn : ∀ {j : Nat} {k : CK} {c' : CC}, (ρ.set i (.cel .own c))[j]? = some (.cel k c') → (j = i) ∨ (j ≠ i ∧ ρ[j]? = some (.cel k c')) := fun {j k c'} e => by
    by_cases q : i = j
    · exact .inl q.symm
    · rw [List.getElem?_set_ne q] at e; exact .inr ⟨fun z => q z.symm, e⟩
  refine ⟨by simp [S.len], S.fh, fun j s e => ?_, fun a b k d k' d' q e1 e2 e3 e4 => ?_, S.keep, S.fro, fun j p e => ?_⟩
  · by_cases q : i = j
    · subst q
      by_cases l : i < ρ.length
      · rw [List.getElem?_set_self l] at e
        cases e
        exact ⟨_, by rw [List.getElem?_set_self (by rw [S.len]; exact l)], p, rfl, r1, r2, (fun z => by cases z), (fun _ => r3), r4⟩
      · rw [List.getElem?_eq_none (by simp; omega)] at e; cases e
    · rw [List.getElem?_set_ne q] at e
      obtain ⟨o, h1, h2⟩ := S.slot j s e
      exact ⟨o, by rw [List.getElem?_set_ne q]; exact h1, h2⟩
  · have at_i : ∀ {z : Option V}, (σ.set i (some (.ref p)))[i]? = some z → z = some (.ref p) := fun {z} h => by
      by_cases l : i < σ.length
      · rw [List.getElem?_set_self l] at h; cases h; rfl
      · rw [List.getElem?_eq_none (by simp; omega)] at h; cases h
    rcases dn e1 with z1 | ⟨n1, f1⟩
    · rcases dn e2 with z2 | ⟨n2, f2⟩
      · rw [z1, z2]
      · subst z1
        have := at_i e3
        cases this
        rw [List.getElem?_set_ne (Ne.symm n2)] at e4
        exact absurd e4 (r5 _ _ _ f2)
    · rcases dn e2 with z2 | ⟨n2, f2⟩
      · subst z2
        have := at_i e4
        cases this
        rw [List.getElem?_set_ne (Ne.symm n1)] at e3
        exact absurd e3 (r5 _ _ _ f1)
      · rw [List.getElem?_set_ne (Ne.symm n1)] at e3
        rw [List.getElem?_set_ne (Ne.symm n2)] at e4
        exact S.dis a b k d k' d' q f1 f2 e3 e4
  · obtain ⟨k, c, h1, h2⟩ := S.pcs j p e
    refine ⟨k, c, ?_, h2⟩
    rw [List.getElem?_set_ne (fun q => by rw [q, e] at np; cases np)]
    exact h1
/-- a cell's content changes -/
theorem Rel.updC (S : Rel K ct fr F H σ ρ) {i : Nat} {p : Addr} {k k' : CK} {c c' : CC} {o : HO} (e : ρ[i]? = some (.cel k c)) (es : σ[i]? = some (some (.ref p))) (hk : k'.isPar = k.isPar) (r : CelR K ct.ad F (upd H p o) p c') : Rel K ct fr F (upd H p o) σ (ρ.set i (.cel k' c')) := by
  obtain ⟨o1, q1, p', q2, q3, q4, q5, q6, q7⟩ := S.slot i _ e
  rw [q1] at es
  cases es
  cases q2
  have il := (List.getElem?_eq_some_iff.mp e).1
  have fp : ∀ b u, F b = some u → b ≠ p := fun b u z w => by rw [w, q3] at z; cases z
  have dn : ∀ {j : Nat} {k1 : CK} {c1 : CC}, (ρ.set i (.cel k' c'))[j]? = some (.cel k1 c1) → ∃ k2 c2, ρ[j]? = some (.cel k2 c2) := fun {j k1 c1} z => by
    by_cases q : i = j
    · subst q; exact ⟨k, c, e⟩
    · rw [List.getElem?_set_ne q] at z; exact ⟨_, _, z⟩
  refine ⟨by simp [S.len], fun b u z => ?_, fun j s z => ?_, fun a b k1 d k2 d' q e1 e2 e3 e4 => ?_, fun b u z => ?_, S.fro, fun j q z => ?_⟩
  · rw [upd_ne (fp b u z)]; exact S.fh _ _ z
  · by_cases q : i = j
    · subst q
      rw [List.getElem?_set_self il] at z
      cases z
      exact ⟨_, q1, p, rfl, q3, q4, (fun y => q5 (hk ▸ y)), (fun y => q6 (hk ▸ y)), r⟩
    · rw [List.getElem?_set_ne q] at z
      obtain ⟨u, h1, h2⟩ := S.slot j s z
      refine ⟨u, h1, ?_⟩
      cases s with
      | un => trivial
      | dat d => exact h2
      | cel k1 c1 =>
        obtain ⟨p1, g1, g2, g3, g4, g5, g6⟩ := h2
        subst g1
        refine ⟨p1, rfl, g2, g3, g4, g5, g6.keep (Same.refl _) ?_⟩
        rw [upd_ne]
        intro w
        subst w
        exact q (S.dis i j k c k1 c1 p1 e z q1 h1)
      | exn _ _ => exact h2
  · obtain ⟨_, _, f1⟩ := dn e1
    obtain ⟨_, _, f2⟩ := dn e2
    exact S.dis a b _ _ _ _ q f1 f2 e3 e4
  · rw [upd_ne (fun w => by rw [w, q4] at z; cases z)]; exact S.keep _ _ z
  · obtain ⟨k1, c1, h1, h2⟩ := S.pcs j q z
    by_cases w : i = j
    · subst w
      rw [e] at h1
      cases h1
      exact ⟨k', c', by rw [List.getElem?_set_self il], by rw [hk]; exact h2⟩
    · exact ⟨k1, c1, by rw [List.getElem?_set_ne w]; exact h1, h2⟩
/-- a cell becomes data -/
theorem Rel.frz (S : Rel K ct fr F H σ ρ) {i : Nat} {k : CK} {c : CC} {d : D} (e : ρ[i]? = some (.cel k c)) (hk : k.isPar = false) (hf : c.froz = some d) :
    ∃ p F', σ[i]? = some (some (.ref p)) ∧ Same F F' ∧ Rp K ct.ad F' (.ref p) d ∧ Rel K ct fr F' H σ (ρ.set i (.dat d)) := by
  obtain ⟨o1, q1, p, q2, q3, q4, q5, q6, q7⟩ := S.slot i _ e
  subst q2
  obtain ⟨o, ho, sm, rp⟩ := q7.froz hf q3
  have il := (List.getElem?_eq_some_iff.mp e).1
  have np : fr.pa i = none := by
    cases z : fr.pa i with
    | none => rfl
    | some q =>
      obtain ⟨k1, c1, h1, h2⟩ := S.pcs i q z
      rw [e] at h1
      cases h1
      rw [hk] at h2
      cases h2
  have dn : ∀ {j : Nat} {k1 : CK} {c1 : CC}, (ρ.set i (.dat d))[j]? = some (.cel k1 c1) → j ≠ i ∧ ρ[j]? = some (.cel k1 c1) := fun {j k1 c1} z => by
    by_cases q : i = j
    · subst q; rw [List.getElem?_set_self il] at z; cases z
    · rw [List.getElem?_set_ne q] at z; exact ⟨fun w => q w.symm, z⟩
  refine ⟨p, _, q1, sm, rp, by simp [S.len], fun b u z => ?_, fun j s z => ?_, fun a b k1 d1 k2 d2 q e1 e2 e3 e4 => ?_, S.keep, fun b hb h0 => ?_, fun j q z => ?_⟩
  · by_cases w : b = p
    · subst w; rw [upd_same] at z; cases z; exact ho
    · rw [upd_ne w] at z; exact S.fh _ _ z
  · by_cases q : i = j
    · subst q
      rw [List.getElem?_set_self il] at z
      cases z
      exact ⟨_, q1, _, rfl, rp⟩
    · rw [List.getElem?_set_ne q] at z
      obtain ⟨u, h1, h2⟩ := S.slot j s z
      refine ⟨u, h1, ?_⟩
      cases s with
      | un => trivial
      | dat d => obtain ⟨v, g1, g2⟩ := h2; exact ⟨v, g1, g2.mono sm⟩
      | cel k1 c1 =>
        obtain ⟨p1, g1, g2, g3, g4, g5, g6⟩ := h2
        subst g1
        refine ⟨p1, rfl, ?_, g3, g4, g5, g6.keep sm rfl⟩
        rw [upd_ne]
        · exact g2
        · intro w
          subst w
          exact q (S.dis i j k c k1 c1 p1 e z q1 h1)
      | exn _ _ => exact ⟨h2.1, h2.2.1, h2.2.2.mono sm⟩
  · obtain ⟨_, f1⟩ := dn e1
    obtain ⟨_, f2⟩ := dn e2
    exact S.dis a b _ _ _ _ q f1 f2 e3 e4
  · rw [upd_ne (fun w => hb (by rw [w]; exact q4))]
    exact S.fro b hb h0
  · obtain ⟨k1, c1, h1, h2⟩ := S.pcs j q z
    exact ⟨k1, c1, by rw [List.getElem?_set_ne (fun w => by rw [w, z] at np; cases np)]; exact h1, h2⟩
/-- a new cell becomes data -/
theorem Fresh.frz {p : Addr} {c : CC} {d : D} (r : Fresh K ct.ad fr F H σ ρ p c) (S : Rel K ct fr F H σ ρ) (hf : c.froz = some d) : ∃ F', Same F F' ∧ Rp K ct.ad F' (.ref p) d ∧ Rel K ct fr F' H σ ρ := by
  obtain ⟨r1, r2, r3, r4, r5⟩ := r
  obtain ⟨o, ho, sm, rp⟩ := r4.froz hf r1
  refine ⟨_, sm, rp, S.len, fun b u z => ?_, fun j s z => ?_, S.dis, S.keep, fun b hb h0 => ?_, S.pcs⟩
  · by_cases w : b = p
    · subst w; rw [upd_same] at z; cases z; exact ho
    · rw [upd_ne w] at z; exact S.fh _ _ z
  · obtain ⟨u, h1, h2⟩ := S.slot j s z
    refine ⟨u, h1, ?_⟩
    cases s with
    | un => trivial
    | dat d => obtain ⟨v, g1, g2⟩ := h2; exact ⟨v, g1, g2.mono sm⟩
    | cel k1 c1 =>
      obtain ⟨p1, g1, g2, g3, g4, g5, g6⟩ := h2
      subst g1
      refine ⟨p1, rfl, ?_, g3, g4, g5, g6.keep sm rfl⟩
      rw [upd_ne]
      · exact g2
      · intro w
        subst w
        exact r5 _ _ _ z h1
    | exn _ _ => exact ⟨h2.1, h2.2.1, h2.2.2.mono sm⟩
  · rw [upd_ne (fun w => hb (by rw [w]; exact r2))]
    exact S.fro b hb h0
end
end PL
end
section
namespace PL
open PySem PySem.Spec PyProof.Rows L2
variable {K : PySem.W.Frag} {ad : Cl → Addr} {ct : CT}
abbrev Rel3 (β α : Type) := Fr → Hp → Hp → L2.St → List Sl → β → α → Prop
variable (K ct) in
def Tat {β α : Type} (R : Rel3 β α) (W : WX) (fr : Fr) (F : Hp) (ρ : List Sl) (m : M α) (σ : L2.St) (Q : β → Hp → Prop) : Prop :=
  ∃ r ρ', m ρ = some (r, ρ') ∧ match r with
    | .ok a => ∀ v F' H', Same F F' → Rel K ct fr F' H' σ ρ' → R fr F' H' σ ρ' v a → Q v H'
    | .er c pl => ∀ d F' H', Same F F' → Rel K ct fr F' H' σ ρ' → PlR K ct.ad F' c pl d → W (.ref (ct.ad c)) d σ H'
variable (K ct) in
def T {β α : Type} (R : Rel3 β α) (W : WX) (m : M α) : L2.St → Hp → (β → Hp → Prop) → Prop := fun σ H Q => ∃ fr F ρ, Rel K ct fr F H σ ρ ∧ Tat K ct R W fr F ρ m σ Q
variable (K ad) in
def RD : Rel3 V D := fun _ F _ _ _ v d => Rp K ad F v d
variable (K ad) in
def RV : Rel3 V Rv := fun fr F H σ ρ v r => match r with
  | .d d => Rp K ad F v d
  | .c c => ∃ p, v = .ref p ∧ Fresh K ad fr F H σ ρ p c
def RB : Rel3 Bool Bool := fun _ _ _ _ _ b a => b = a
/-- an argument: data, or a cell that stands in slot j -/
inductive Ar | d (d : D) | c (j : Nat)
variable (K ad) in
def RA1 (F : Hp) (σ : L2.St) (v : V) : Ar → Prop
  | .d d => Rp K ad F v d
  | .c j => σ[j]? = some (some v)
variable (K ad) in
inductive RAs (F : Hp) (σ : L2.St) : List V → List Ar → Prop
  | nil : RAs F σ [] []
  | cons {v : V} {a : Ar} {vs : List V} {as : List Ar} : RA1 K ad F σ v a → RAs F σ vs as → RAs F σ (v :: vs) (a :: as)
variable (K ad) in
def RA : Rel3 (List V) (List Ar) := fun _ F _ σ _ vs as => RAs K ad F σ vs as
variable (K ad) in
def RDs : Rel3 (List V) (List D) := fun _ F _ _ _ vs ds => Rps K ad F vs ds
variable {fr : Fr} {F F' H H' : Hp} {σ : L2.St} {ρ : List Sl} {W : WX}
section
variable {α β γ δ : Type} {R : Rel3 β α} {R' : Rel3 δ γ} {m : M α} {k : α → M γ} {Q : δ → Hp → Prop} {Q1 : β → Hp → Prop}
theorem Tat.bndT (h : Tat K ct R' W fr F ρ (PL.bnd m k) σ Q)
    (hq : ∀ F1 H1 ρ1 v a, Same F F1 → Rel K ct fr F1 H1 σ ρ1 → R fr F1 H1 σ ρ1 v a → Tat K ct R' W fr F1 ρ1 (k a) σ Q → Q1 v H1) : Tat K ct R W fr F ρ m σ Q1 := by
  obtain ⟨r, ρ', e, q⟩ := h
  unfold PL.bnd at e
  cases em : m ρ with
  | none => rw [em] at e; cases e
  | some x =>
    obtain ⟨r1, ρ1⟩ := x
    rw [em] at e
    cases r1 with
    | ok a =>
      refine ⟨.ok a, ρ1, em, fun v F1 H1 s1 S1 r1 => hq F1 H1 ρ1 v a s1 S1 r1 ⟨r, ρ', e, ?_⟩⟩
      cases r with
      | ok z => exact fun v F' H' s' => q v F' H' (s1.trans s')
      | er c pl => exact fun d F' H' s' => q d F' H' (s1.trans s')
    | er c pl =>
      refine ⟨.er c pl, ρ1, em, ?_⟩
      have e : (some (Ex.er c pl, ρ1) : Option (Ex γ × List Sl)) = some (r, ρ') := e
      cases e
      exact q
theorem Tat.bnd (h : Tat K ct R' W fr F ρ (PL.bnd m k) σ Q) (S : Rel K ct fr F H σ ρ)
    (hq : ∀ F1 H1 ρ1 v a, Same F F1 → Rel K ct fr F1 H1 σ ρ1 → R fr F1 H1 σ ρ1 v a → Tat K ct R' W fr F1 ρ1 (k a) σ Q → Q1 v H1) : T K ct R W m σ H Q1 := ⟨fr, F, ρ, S, h.bndT hq⟩
theorem Tat.ok {a : γ} (h : Tat K ct R' W fr F ρ (pur a) σ Q) : ∀ v F' H', Same F F' → Rel K ct fr F' H' σ ρ → R' fr F' H' σ ρ v a → Q v H' := by
  obtain ⟨r, ρ', e, q⟩ := h
  cases e
  exact q
theorem Tat.opt {o : Option γ} (h : Tat K ct R' W fr F ρ (PL.opt o) σ Q) : ∃ a, o = some a ∧ ∀ v F' H', Same F F' → Rel K ct fr F' H' σ ρ → R' fr F' H' σ ρ v a → Q v H' := by
  cases o with
  | none => obtain ⟨r, ρ', e, q⟩ := h; cases e
  | some a => exact ⟨a, rfl, h.ok⟩
theorem Tat.to (h : Tat K ct R W fr F ρ m σ Q1) (S : Rel K ct fr F H σ ρ) : T K ct R W m σ H Q1 := ⟨fr, F, ρ, S, h⟩
theorem Tat.mono (h : Tat K ct R W fr F ρ m σ Q1) (s : Same F F') : Tat K ct R W fr F' ρ m σ Q1 := by
  obtain ⟨r, ρ', e, q⟩ := h
  refine ⟨r, ρ', e, ?_⟩
  cases r with
  | ok z => exact fun v F' H' s' => q v F' H' (s.trans s')
  | er c pl => exact fun d F' H' s' => q d F' H' (s.trans s')
end
/-- the value as data: a new cell is frozen -/
def dat (m : Ev) : M D := bnd m fun r => match r with
  | .d d => pur d
  | .c c => opt c.froz
theorem Tat.datT {δ γ : Type} {R' : Rel3 δ γ} {m : Ev} {k : D → M γ} {Q : δ → Hp → Prop} {Q1 : V → Hp → Prop} (h : Tat K ct R' W fr F ρ (PL.bnd (PL.dat m) k) σ Q)
    (hq : ∀ F1 H1 ρ1 v d, Same F F1 → Rel K ct fr F1 H1 σ ρ1 → Rp K ct.ad F1 v d → Tat K ct R' W fr F1 ρ1 (k d) σ Q → Q1 v H1) : Tat K ct (RV K ct.ad) W fr F ρ m σ Q1 := by
  have e : PL.bnd (PL.dat m) k = PL.bnd m fun r => PL.bnd (match r with | Rv.d d => pur d | Rv.c c => PL.opt c.froz) k := by
    funext ρ
    unfold PL.dat PL.bnd
    cases em : m ρ with
    | none => rfl
    | some x =>
      obtain ⟨r1, ρ1⟩ := x
      cases r1 with
      | ok a => cases a <;> rfl
      | er c pl => rfl
  rw [e] at h
  refine h.bndT fun F1 H1 ρ1 v r s1 S1 r1 q => ?_
  cases r with
  | d d => exact hq F1 H1 ρ1 v d s1 S1 r1 (by obtain ⟨r, ρ', e, q⟩ := q; exact ⟨r, ρ', e, q⟩)
  | c c =>
    obtain ⟨p, ev, fp⟩ := r1
    subst ev
    cases ef : c.froz with
    | none =>
      obtain ⟨r, ρ', e, q⟩ := q
      have e : PL.bnd (PL.opt c.froz) k ρ1 = some (r, ρ') := e
      rw [ef] at e
      cases e
    | some d =>
      obtain ⟨F2, s2, rp, S2⟩ := fp.frz S1 ef
      refine hq F2 H1 ρ1 _ d (s1.trans s2) S2 rp ?_
      have q2 := q.mono s2
      obtain ⟨r, ρ', e, q⟩ := q2
      have e : PL.bnd (PL.opt c.froz) k ρ1 = some (r, ρ') := e
      rw [ef] at e
      exact ⟨r, ρ', e, q⟩
theorem Tat.dat {δ γ : Type} {R' : Rel3 δ γ} {m : Ev} {k : D → M γ} {Q : δ → Hp → Prop} {Q1 : V → Hp → Prop} (h : Tat K ct R' W fr F ρ (PL.bnd (PL.dat m) k) σ Q) (S : Rel K ct fr F H σ ρ)
    (hq : ∀ F1 H1 ρ1 v d, Same F F1 → Rel K ct fr F1 H1 σ ρ1 → Rp K ct.ad F1 v d → Tat K ct R' W fr F1 ρ1 (k d) σ Q → Q1 v H1) : T K ct (RV K ct.ad) W m σ H Q1 := ⟨fr, F, ρ, S, h.datT hq⟩
/-! the derivations weakened -/
section
variable {X : Cx}
theorem _root_.L2.PE.imp {e : Expr} {t t' : TE} (h : PE X e t) (w : ∀ σ H Q, t' σ H Q → t σ H Q) : PE X e t' := ⟨fun pins s σ H Q I q => h.run pins s σ H Q I (w σ H Q q)⟩
theorem _root_.L2.PT.imp {e : Expr} {t t' : TT} (h : PT X e t) (w : ∀ σ H Q, t' σ H Q → t σ H Q) : PT X e t' := ⟨fun pins s σ H Q I q => h.run pins s σ H Q I (w σ H Q q)⟩
theorem _root_.L2.PW.imp {e : Expr} {t t' : TT} (h : PW X e t) (w : ∀ σ H Q, t' σ H Q → t σ H Q) : PW X e t' := ⟨fun wh pins s σ H Q I q => h.run wh pins s σ H Q I (w σ H Q q)⟩
theorem _root_.L2.PTs.imp {es : List Expr} {t t' : TT} (h : PTs X es t) (w : ∀ σ H Q, t' σ H Q → t σ H Q) : PTs X es t' := ⟨fun pins s σ H Q I q => h.run pins s σ H Q I (w σ H Q q)⟩
theorem _root_.L2.PA.imp {es : List Expr} {t t' : TA} (h : PA X es t) (w : ∀ σ H Q, t' σ H Q → t σ H Q) : PA X es t' := ⟨fun pos pins s σ H Q I q => h.run pos pins s σ H Q I (w σ H Q q)⟩
theorem _root_.L2.PS.imp {st : Stmt} {t t' : TS} (h : PS X st t) (w : ∀ D σ H, t' D σ H → t D σ H) : PS X st t' := ⟨fun pins s σ H D I q => h.run pins s σ H D I (w D σ H q)⟩
theorem _root_.L2.PSs.imp {st : List Stmt} {t t' : TS} (h : PSs X st t) (w : ∀ D σ H, t' D σ H → t D σ H) : PSs X st t' := ⟨fun pins s σ H D I q => h.run pins s σ H D I (w D σ H q)⟩
theorem _root_.L2.PG.imp {e : Expr} {t t' : TG} (h : PG X e t) (w : ∀ v σ H Q, t' v σ H Q → t v σ H Q) : PG X e t' := ⟨fun pins s σ H v u Q I r q => h.run pins s σ H v u Q I r (w v σ H Q q)⟩
theorem _root_.L2.PO.imp {e : Option Expr} {t t' : TO} (h : PO X e t) (w : ∀ σ H Q, t' σ H Q → t σ H Q) : PO X e t' := ⟨fun pins s σ H Q I q => h.run pins s σ H Q I (w σ H Q q)⟩
theorem _root_.L2.PI.imp {tg e : Expr} {t t' : TI} (h : PI X tg e t) (w : ∀ σ H Q, t' σ H Q → t σ H Q) : PI X tg e t' := ⟨fun pins s σ H Q I q => h.run pins s σ H Q I (w σ H Q q)⟩
end
/-! ### expressions -/
variable (K ct) in
abbrev TP (W : WX) (m : Ev) : TE := T K ct (RV K ct.ad) W m
variable (K ct) in
abbrev TB (W : WX) (m : M Bool) : TT := T K ct RB W m
variable (K ct) in
abbrev TAr (W : WX) (m : M (List Ar)) : TA := T K ct (RA K ct.ad) W m
def vD (d : D) : Ev := pur (.d d)
/-- a name -/
def evV (i : Nat) : Ev := fun ρ => match ρ[i]? with
  | some (.dat d) => some (.ok (.d d), ρ)
  | _ => none
/-- .. that is data from now on -/
def evF (i : Nat) : Ev := fun ρ => match ρ[i]? with
  | some (.dat d) => some (.ok (.d d), ρ)
  | some (.cel .own c) => (c.froz).map fun d => (.ok (.d d), ρ.set i (.dat d))
  | _ => none
/-- .. that hands over its cell -/
def evM (i : Nat) : Ev := fun ρ => match ρ[i]? with
  | some (.dat d) => some (.ok (.d d), ρ)
  | some (.cel .own c) => some (.ok (.c c), ρ.set i .un)
  | _ => none
section
variable {X : Cx} {a b c : Expr} {fa fb fc : Ev} {pos : Pos}
theorem w_v {i : Nat} {Q : VK} (h : TP K ct W (evV i) σ H Q) : tVar i σ H Q := by
  obtain ⟨fr, F, ρ, S, r, ρ', e, q⟩ := h
  unfold evV at e
  split at e
  · rename_i d hd
    cases e
    obtain ⟨o, h1, v, h2, h3⟩ := S.slot i _ hd
    subst h2
    exact ⟨v, h1, q v F H (Same.refl _) S h3⟩
  · cases e
theorem w_f {i : Nat} {Q : VK} (h : TP K ct W (evF i) σ H Q) : tVar i σ H Q := by
  obtain ⟨fr, F, ρ, S, r, ρ', e, q⟩ := h
  unfold evF at e
  split at e
  · rename_i d hd
    cases e
    obtain ⟨o, h1, v, h2, h3⟩ := S.slot i _ hd
    subst h2
    exact ⟨v, h1, q v F H (Same.refl _) S h3⟩
  · rename_i c hc
    cases ef : c.froz with
    | none => rw [ef] at e; cases e
    | some d =>
      rw [ef] at e
      cases e
      obtain ⟨p, F', h1, s, rp, S'⟩ := S.frz hc rfl ef
      exact ⟨_, h1, q _ F' H s S' rp⟩
  · cases e
theorem Rel.own (S : Rel K ct fr F H σ ρ) {i : Nat} {k : CK} {c : CC} (e : ρ[i]? = some (.cel k c)) (hk : k.isPar = false) : fr.pa i = none := by
  cases z : fr.pa i with
  | none => rfl
  | some q =>
    obtain ⟨k1, c1, h1, h2⟩ := S.pcs i q z
    rw [e] at h1
    cases h1
    rw [hk] at h2
    cases h2
theorem pp_v (i : Nat) {x : Str} (h : PE X (.Name x pos) (tVar i)) : PE X (.Name x pos) (TP K ct W (evV i)) := h.imp fun _ _ _ => w_v
theorem pp_f (i : Nat) {x : Str} (h : PE X (.Name x pos) (tVar i)) : PE X (.Name x pos) (TP K ct W (evF i)) := h.imp fun _ _ _ => w_f
/-- a value that needs no heap -/
def D.toV : D → Option V
  | .non => some .non | .bl b => some (.bl b) | .int i => some (.int i) | .str s => some (.str s) | _ => none
theorem D.toV_rp {d : D} {v : V} (h : d.toV = some v) : Rp K ct.ad F v d := by
  cases d <;> cases h <;> constructor
theorem w_c {d : D} {v : V} {Q : VK} (hd : d.toV = some v) (h : TP K ct W (vD d) σ H Q) : tC v σ H Q := by
  obtain ⟨fr, F, ρ, S, h⟩ := h
  exact h.ok v F H (Same.refl _) S (D.toV_rp hd)
theorem pp_c {e : Expr} {d : D} {v : V} (h : PE X e (tC v)) (hd : d.toV = some v := by rfl) : PE X e (TP K ct W (vD d)) := h.imp fun _ _ _ => w_c hd
/-- a two-place operation on data -/
def ev2 (g : D → D → Option D) (a b : Ev) : Ev := bnd (dat a) fun x => bnd (dat b) fun y => opt ((g x y).map Rv.d)
def ev2c (g : D → D → Option CC) (a b : Ev) : Ev := bnd (dat a) fun x => bnd (dat b) fun y => opt ((g x y).map Rv.c)
def ev1 (g : D → Option D) (a : Ev) : Ev := bnd (dat a) fun x => opt ((g x).map Rv.d)
variable (K ad) in
def O2 (r : R2) (g : D → D → Option D) : Prop := ∀ {F H : Hp} {x y : V} {d e z : D} {Q : VK}, Same F H → Rp K ad F x d → Rp K ad F y e → g d e = some z → (∀ v, Rp K ad F v z → Q v H) → r x y H Q
variable (K ad) in
def O1 (r : V → Hp → VK → Prop) (g : D → Option D) : Prop := ∀ {F H : Hp} {x : V} {d z : D} {Q : VK}, Same F H → Rp K ad F x d → g d = some z → (∀ v, Rp K ad F v z → Q v H) → r x H Q
variable (K ad) in
/-- .. that makes a new object -/
def O2c (r : R2) (g : D → D → Option CC) : Prop := ∀ {F H : Hp} {x y : V} {d e : D} {z : CC} {Q : VK}, Same F H → Rp K ad F x d → Rp K ad F y e → g d e = some z → (∀ p o, H p = none → (F p = none → CelR K ad F (upd H p o) p z) → Q (.ref p) (upd H p o)) → r x y H Q
theorem map_some {α β : Type} {o : Option α} {f : α → β} {b : β} (h : o.map f = some b) : ∃ a, o = some a ∧ f a = b := by
  cases o with
  | none => cases h
  | some a => exact ⟨a, rfl, Option.some.inj h⟩
theorem w_2 {r : R2} {g : D → D → Option D} (O : O2 K ct.ad r g) {Q : VK} (h : TP K ct W (ev2 g fa fb) σ H Q) : tOp r (TP K ct W fa) (TP K ct W fb) σ H Q := by
  obtain ⟨fr, F, ρ, S, h⟩ := h
  refine h.dat S fun F1 H1 ρ1 v d s1 S1 r1 h => ?_
  refine h.dat S1 fun F2 H2 ρ2 u e s2 S2 r2 h => ?_
  obtain ⟨z, e1, q⟩ := h.opt
  obtain ⟨y, e2, rfl⟩ := map_some e1
  exact O S2.fh (r1.mono s2) r2 e2 fun v rv => q v F2 H2 (Same.refl _) S2 rv
theorem w_1 {r : V → Hp → VK → Prop} {g : D → Option D} (O : O1 K ct.ad r g) {Q : VK} (h : TP K ct W (ev1 g fa) σ H Q) : tUn r (TP K ct W fa) σ H Q := by
  obtain ⟨fr, F, ρ, S, h⟩ := h
  refine h.dat S fun F1 H1 ρ1 v d s1 S1 r1 h => ?_
  obtain ⟨z, e1, q⟩ := h.opt
  obtain ⟨y, e2, rfl⟩ := map_some e1
  exact O S1.fh r1 e2 fun v rv => q v F1 H1 (Same.refl _) S1 rv
theorem pp_2 {op : Operator} {r : R2} {g : D → D → Option D} (ho : OpR X (binaryOp op) r) (O : O2 K ct.ad r g) (ha : PE X a (TP K ct W fa)) (hb : PE X b (TP K ct W fb)) : PE X (.BinOp a op b pos) (TP K ct W (ev2 g fa fb)) := (pe_op ho ha hb).imp fun _ _ _ => w_2 O
theorem pp_1 {op : UnaryOp} {r : V → Hp → VK → Prop} {g : D → Option D} (ho : UnR X (unaryOp op) r) (O : O1 K ct.ad r g) (ha : PE X a (TP K ct W fa)) : PE X (.UnaryOp op a pos) (TP K ct W (ev1 g fa)) := (pe_un ho ha).imp fun _ _ _ => w_1 O
theorem pp_cmp {op : CmpOp} {r : R2} {g : D → D → Option D} (ho : OpR X (compareOp op) r) (O : O2 K ct.ad r g) (ha : PE X a (TP K ct W fa)) (hb : PE X b (TP K ct W fb)) (hm : behindInMarks op b = false) : PE X (.Compare a [op] [b] pos) (TP K ct W (ev2 g fa fb)) := (pe_cmpR ho ha hb hm).imp fun _ _ _ => w_2 O
/-- tests -/
def tst (a : Ev) : M Bool := bnd (dat a) fun x => match x with | .bl b => pur b | _ => fai
theorem w_t {Q : Bool → Hp → Prop} (h : TB K ct W (tst fa) σ H Q) : tTest (TP K ct W fa) σ H Q := by
  obtain ⟨fr, F, ρ, S, h⟩ := h
  refine h.dat S fun F1 H1 ρ1 v d s1 S1 r1 h => ?_
  cases d with
  | bl b =>
    cases r1
    exact ⟨b, rfl, h.ok b F1 H1 (Same.refl _) S1 rfl⟩
  | _ => obtain ⟨_, _, e, _⟩ := h; cases e
theorem pp_tcmp {op : CmpOp} {r : R2} {g : D → D → Option D} (ho : OpR X (compareOp op) r) (O : O2 K ct.ad r g) (ha : PE X a (TP K ct W fa)) (hb : PE X b (TP K ct W fb)) (hm : behindInMarks op b = false) : PT X (.Compare a [op] [b] pos) (TB K ct W (tst (ev2 g fa fb))) := by
  refine (pt_cmpR ho ha hb hm).imp fun σ H Q h => ?_
  have z := w_t h
  obtain ⟨fr, F, ρ, S, h⟩ := z
  exact w_2 O ⟨fr, F, ρ, S, h⟩
theorem pp_tval {e : Expr} (h : PE X e (TP K ct W fa)) (he : ∀ whole, isTrue e X.env whole = (do let v ← whole; standAt e.pos; holding [v] (truthy v)) := by intro _; rfl) : PT X e (TB K ct W (tst fa)) := (pt_val h he).imp fun _ _ _ => w_t
end
end PL
end
section
namespace PL
open PySem PySem.Spec PyProof.Rows L2
variable {K : PySem.W.Frag} {ad : Cl → Addr} {ct : CT}
variable {fr : Fr} {F F' H H' : Hp} {σ : L2.St} {ρ : List Sl} {W : WX}
/-! ### ints -/
def dAdd : D → D → Option D | .int i, .int j => some (.int (i + j)) | _, _ => none
def dSub : D → D → Option D | .int i, .int j => some (.int (i - j)) | _, _ => none
/-- a product: one factor below 2 ^ 64, or both not beyond a million bits -/
def mulOk (i j : Int) : Prop := (-(2 ^ 64) < i ∧ i < 2 ^ 64) ∨ (-(2 ^ 64) < j ∧ j < 2 ^ 64) ∨ i.natAbs.log2 + j.natAbs.log2 < 1000000
instance (i j : Int) : Decidable (mulOk i j) := by unfold mulOk; infer_instance
def dMul : D → D → Option D | .int i, .int j => if mulOk i j then some (.int (i * j)) else none | _, _ => none
def divOk (j : Int) : Prop := 0 < j ∧ (j < 1073741824 ∨ j.natAbs.log2 < 9000)
instance (j : Int) : Decidable (divOk j) := by unfold divOk; infer_instance
def dDiv : D → D → Option D | .int i, .int j => if divOk j then some (.int (i / j)) else none | _, _ => none
def dDivN : D → D → Option D | .int i, .int j => if j ≠ 0 ∧ j.natAbs.log2 < 9000 then some (.int (i.fdiv j)) else none | _, _ => none
def dMod : D → D → Option D | .int i, .int j => if 0 < j then some (.int (i % j)) else none | _, _ => none
def dPow : D → D → Option D | .int i, .int j => if 0 ≤ j ∧ j ≤ 1000000 ∧ i.natAbs < 2 ^ 64 then some (.int (i ^ j.toNat)) else none | _, _ => none
def dNeg : D → Option D | .int i => some (.int (-i)) | _ => none
def dLt : D → D → Option D | .int i, .int j => some (.bl (decide (i < j))) | _, _ => none
def dLe : D → D → Option D | .int i, .int j => some (.bl (decide (i ≤ j))) | _, _ => none
def dGt : D → D → Option D | .int i, .int j => some (.bl (decide (j < i))) | _, _ => none
def dGe : D → D → Option D | .int i, .int j => some (.bl (decide (j ≤ i))) | _, _ => none
theorem o_0 {g : Int → Int → V} {gd : Int → Int → D} {G : D → D → Option D} (hg : ∀ d e z, G d e = some z → ∃ i j, d = .int i ∧ e = .int j ∧ z = gd i j) (hv : ∀ i j, (gd i j).toV = some (g i j)) : O2 K ct.ad (rI0 g) G := by
  intro F H x y d e z Q s r1 r2 e1 q
  obtain ⟨i, j, rfl, rfl, rfl⟩ := hg d e z e1
  cases r1
  cases r2
  exact ⟨i, j, rfl, rfl, q _ (D.toV_rp (hv i j))⟩
theorem o_add : O2 K ct.ad (rI0 fun i j => .int (i + j)) dAdd := o_0 (gd := fun i j => .int (i + j)) (fun d e z h => by
  cases d <;> cases e <;> cases h
  exact ⟨_, _, rfl, rfl, rfl⟩) (fun _ _ => rfl)
theorem o_sub : O2 K ct.ad (rI0 fun i j => .int (i - j)) dSub := o_0 (gd := fun i j => .int (i - j)) (fun d e z h => by
  cases d <;> cases e <;> cases h
  exact ⟨_, _, rfl, rfl, rfl⟩) (fun _ _ => rfl)
theorem o_lt : O2 K ct.ad (rI0 fun i j => .bl (decide (i < j))) dLt := o_0 (gd := fun i j => .bl (decide (i < j))) (fun d e z h => by
  cases d <;> cases e <;> cases h
  exact ⟨_, _, rfl, rfl, rfl⟩) (fun _ _ => rfl)
theorem o_le : O2 K ct.ad (rI0 fun i j => .bl (decide (i ≤ j))) dLe := o_0 (gd := fun i j => .bl (decide (i ≤ j))) (fun d e z h => by
  cases d <;> cases e <;> cases h
  exact ⟨_, _, rfl, rfl, rfl⟩) (fun _ _ => rfl)
theorem o_gt : O2 K ct.ad (rI0 fun i j => .bl (decide (j < i))) dGt := o_0 (gd := fun i j => .bl (decide (j < i))) (fun d e z h => by
  cases d <;> cases e <;> cases h
  exact ⟨_, _, rfl, rfl, rfl⟩) (fun _ _ => rfl)
theorem o_ge : O2 K ct.ad (rI0 fun i j => .bl (decide (j ≤ i))) dGe := o_0 (gd := fun i j => .bl (decide (j ≤ i))) (fun d e z h => by
  cases d <;> cases e <;> cases h
  exact ⟨_, _, rfl, rfl, rfl⟩) (fun _ _ => rfl)
/-- a product, either way -/
def rMulB : R2 := fun x y H Q => ∃ i j, x = .int i ∧ y = .int j ∧ mulOk i j ∧ Q (.int (i * j)) H
theorem op_mulB {X : Cx} : OpR X (binaryOp .Mult) rMulB := by
  intro pins s σ H x y v u Q I rx ry ⟨i, j, ex, ey, hc, q⟩
  rcases hc with hc | hc | hc
  · exact op_mul pins s σ H x y v u Q I rx ry ⟨i, j, ex, ey, .inl hc, q⟩
  · exact op_mul pins s σ H x y v u Q I rx ry ⟨i, j, ex, ey, .inr hc, q⟩
  · exact op_mulW pins s σ H x y v u Q I rx ry ⟨i, j, ex, ey, hc, q⟩
def rDivB : R2 := fun x y H Q => ∃ i j, x = .int i ∧ y = .int j ∧ divOk j ∧ Q (.int (i / j)) H
theorem op_divB {X : Cx} : OpR X (binaryOp .FloorDiv) rDivB := by
  intro pins s σ H x y v u Q I rx ry ⟨i, j, ex, ey, ⟨h0, hc⟩, q⟩
  rcases hc with hc | hc
  · exact op_fdiv pins s σ H x y v u Q I rx ry ⟨i, j, ex, ey, ⟨h0, hc⟩, q⟩
  · exact op_fdivW pins s σ H x y v u Q I rx ry ⟨i, j, ex, ey, ⟨h0, hc⟩, q⟩
def rDivN : R2 := fun x y H Q => ∃ i j, x = .int i ∧ y = .int j ∧ (j ≠ 0 ∧ j.natAbs.log2 < 9000) ∧ Q (.int (i.fdiv j)) H
theorem o_mul : O2 K ct.ad rMulB dMul := by
  intro F H x y d e z Q s r1 r2 e1 q
  cases d <;> cases e <;> try cases e1
  rename_i i j
  cases r1; cases r2
  have e1 : (if mulOk i j then some (D.int (i * j)) else none) = some z := e1
  split at e1
  · rename_i h
    cases e1
    exact ⟨i, j, rfl, rfl, h, q _ (.int _)⟩
  · cases e1
theorem o_div : O2 K ct.ad rDivB dDiv := by
  intro F H x y d e z Q s r1 r2 e1 q
  cases d <;> cases e <;> try cases e1
  rename_i i j
  cases r1; cases r2
  have e1 : (if divOk j then some (D.int (i / j)) else none) = some z := e1
  split at e1
  · rename_i h
    cases e1
    exact ⟨i, j, rfl, rfl, h, q _ (.int _)⟩
  · cases e1
theorem o_mod : O2 K ct.ad (rI (fun _ j => 0 < j) fun i j => .int (i % j)) dMod := by
  intro F H x y d e z Q s r1 r2 e1 q
  cases d <;> cases e <;> try cases e1
  rename_i i j
  cases r1; cases r2
  have e1 : (if 0 < j then some (D.int (i % j)) else none) = some z := e1
  split at e1
  · rename_i h
    cases e1
    exact ⟨i, j, rfl, rfl, h, q _ (.int _)⟩
  · cases e1
theorem o_pow : O2 K ct.ad (rI CPow fun i j => .int (i ^ j.toNat)) dPow := by
  intro F H x y d e z Q s r1 r2 e1 q
  cases d <;> cases e <;> try cases e1
  rename_i i j
  cases r1; cases r2
  have e1 : (if 0 ≤ j ∧ j ≤ 1000000 ∧ i.natAbs < 2 ^ 64 then some (D.int (i ^ j.toNat)) else none) = some z := e1
  split at e1
  · rename_i h
    cases e1
    exact ⟨i, j, rfl, rfl, h, q _ (.int _)⟩
  · cases e1
theorem o_neg : O1 K ct.ad (rU fun i => .int (-i)) dNeg := by
  intro F H x d z Q s r e q
  cases d <;> cases e
  cases r
  exact ⟨_, rfl, q _ (.int _)⟩
/-! ### texts, lists, tuples -/
def dAddS : D → D → Option D | .str s, .str t => if s.length + t.length ≤ 16777216 then some (.str (s ++ t)) else none | _, _ => none
def rAddS : R2 := fun x y H Q => ∃ i j, x = .str i ∧ y = .str j ∧ i.length + j.length ≤ sizeLine ∧ Q (.str (i ++ j)) H
def cCat : D → D → Option CC | .lst xs, .lst ys => if xs.length + ys.length ≤ 16777216 then some (.lst (xs ++ ys)) else none | _, _ => none
def rep {α : Type} (n : Nat) (xs : List α) : List α := (List.replicate n xs).flatten
def cRep : D → D → Option CC | .lst xs, .int k => if -(2 ^ 63) ≤ k ∧ k < 2 ^ 63 ∧ xs.length * k.toNat ≤ 16777216 then some (.lst (rep k.toNat xs)) else none | _, _ => none
def dCatT : D → D → Option D | .tup xs, .tup ys => if xs.length + ys.length ≤ 16777216 then some (.tup (xs ++ ys)) else none | _, _ => none
/-! ### comparisons of data -/
mutual
def D.py : D → Option PyData
  | .non => some .none | .bl b => some (.bool b) | .int i => some (.int i) | .str s => some (.str s)
  | .tup xs => (D.pys xs).map PyData.tuple | .lst xs => (D.pys xs).map PyData.list | .sq xs => (D.pys xs).map PyData.list
  | _ => none
def D.pys : List D → Option (List PyData)
  | [] => some []
  | x :: xs => match D.py x, D.pys xs with | some a, some b => some (a :: b) | _, _ => none
end
mutual
theorem Rp.dp {F H : Hp} (s : Same F H) : ∀ {d : D} {v : V} {e : PyData}, Rp K ct.ad F v d → d.py = some e → Dp K H v e
  | .non, _, _, h, q => by cases h; cases q; exact .non
  | .bl _, _, _, h, q => by cases h; cases q; exact .bl _
  | .int _, _, _, h, q => by cases h; cases q; exact .int _
  | .str _, _, _, h, q => by cases h; cases q; exact .str _
  | .tup xs, _, _, h, q => by
    cases h with
    | tup h r =>
      rw [D.py] at q
      obtain ⟨a, e1, rfl⟩ := map_some q
      exact .tup (sameT s h) (Rps.dp s r e1)
  | .lst xs, _, _, h, q => by
    cases h with
    | lst h r =>
      rw [D.py] at q
      obtain ⟨a, e1, rfl⟩ := map_some q
      exact .lst (SqL.of (s _ _ h)) (Rps.dp s r e1)
  | .sq xs, _, _, h, q => by
    cases h with
    | sq h r =>
      rw [D.py] at q
      obtain ⟨a, e1, rfl⟩ := map_some q
      exact .lst (s.seq h) (Rps.dp s r e1)
  | .obj _ _, _, _, _, q => by simp [D.py] at q
  | .cl _, _, _, _, q => by simp [D.py] at q
  | .dK _ _, _, _, _, q => by simp [D.py] at q
  | .dT _ _, _, _, _, q => by simp [D.py] at q
theorem Rps.dp {F H : Hp} (s : Same F H) : ∀ {ds : List D} {vs : List V} {es : List PyData}, Rps K ct.ad F vs ds → D.pys ds = some es → DpAll K H vs es
  | [], _, _, h, q => by cases h; rw [D.pys] at q; cases q; exact .nil
  | d :: ds, _, _, h, q => by
    cases h with
    | cons h t =>
      rw [D.pys] at q
      split at q
      · rename_i a b e1 e2
        cases q
        exact .cons (Rp.dp s h e1) (Rps.dp s t e2)
      · cases q
end
/-- == as Python has it, of data of one kind -/
def D.eq? : D → D → Option Bool
  | .non, .non => some true | .non, .int _ => some false | .int _, .non => some false | .non, .bl _ => some false | .bl _, .non => some false | .non, .str _ => some false | .str _, .non => some false
  | .int i, .int j => some (decide (i = j)) | .bl b, .bl c => some (b == c) | .str s, .str t => some (decide (s = t))
  | .int _, .str _ => some false | .str _, .int _ => some false | .bl _, .str _ => some false | .str _, .bl _ => some false
  | d, e => match d.py, e.py with
    | some x, some y => if SeqAt.shaped x && SeqAt.shaped y then some (PyData.eqv x y) else none
    | _, _ => none
def dEq (d e : D) : Option D := (d.eq? e).map .bl
def dNe (d e : D) : Option D := (d.eq? e).map fun b => .bl (!b)
def rEqB (K : PySem.W.Frag) : R2 := fun x y H Q => rEq x y H Q ∨ rEqD K x y H Q
def rNeB (K : PySem.W.Frag) : R2 := fun x y H Q => rNe x y H Q ∨ rNeD K x y H Q
theorem op_eqB {X : Cx} (hu : X.A.units + 64 < cLine) : OpR X (compareOp .Eq) (rEqB X.K) := fun pins s σ H x y v u Q I rx ry h => h.elim (op_eq pins s σ H x y v u Q I rx ry) (op_eqD hu pins s σ H x y v u Q I rx ry)
theorem op_neB {X : Cx} (hu : X.A.units + 64 < cLine) : OpR X (compareOp .NotEq) (rNeB X.K) := fun pins s σ H x y v u Q I rx ry h => h.elim (op_ne pins s σ H x y v u Q I rx ry) (op_neD hu pins s σ H x y v u Q I rx ry)
/-- how two equal or unequal data lie -/
theorem eq_cases {F H : Hp} {x y : V} {d e : D} {b : Bool} (s : Same F H) (r1 : Rp K ct.ad F x d) (r2 : Rp K ct.ad F y e) (h : d.eq? e = some b) :
    (scal x y = true ∧ decide (x = y) = b) ∨ ∃ p q, Dp K H x p ∧ Dp K H y q ∧ SeqAt.shaped p = true ∧ SeqAt.shaped q = true ∧ PyData.eqv p q = b := by
  have deep : ∀ (h : (match d.py, e.py with | some x, some y => if SeqAt.shaped x && SeqAt.shaped y then some (PyData.eqv x y) else none | _, _ => none) = some b),
      ∃ p q, Dp K H x p ∧ Dp K H y q ∧ SeqAt.shaped p = true ∧ SeqAt.shaped q = true ∧ PyData.eqv p q = b := fun h => by
    split at h
    · rename_i p q e1 e2
      split at h
      · rename_i c
        rw [Bool.and_eq_true] at c
        cases h
        exact ⟨p, q, r1.dp s e1, r2.dp s e2, c.1, c.2, rfl⟩
      · cases h
    · cases h
  cases d <;> cases e <;> first
    | exact .inr (deep h)
    | (cases r1; cases r2; cases h; exact .inl ⟨rfl, by first | rfl | simp | (rename_i p q; cases p <;> cases q <;> rfl)⟩)
theorem o_eq : O2 K ct.ad (rEqB K) dEq := by
  intro F H x y d e z Q s r1 r2 e1 q
  obtain ⟨b, h, rfl⟩ := map_some e1
  rcases eq_cases s r1 r2 h with ⟨h1, h2⟩ | ⟨p, p', h1, h2, h3, h4, h5⟩
  · exact .inl ⟨h1, by rw [h2]; exact q _ (.bl b)⟩
  · exact .inr ⟨p, p', h1, h2, h3, h4, by rw [h5]; exact q _ (.bl b)⟩
theorem o_ne : O2 K ct.ad (rNeB K) dNe := by
  intro F H x y d e z Q s r1 r2 e1 q
  obtain ⟨b, h, rfl⟩ := map_some e1
  rcases eq_cases s r1 r2 h with ⟨h1, h2⟩ | ⟨p, p', h1, h2, h3, h4, h5⟩
  · exact .inl ⟨h1, by rw [h2]; exact q _ (.bl _)⟩
  · exact .inr ⟨p, p', h1, h2, h3, h4, by rw [h5]; exact q _ (.bl _)⟩
/-- is None, is not None -/
def D.isN : D → Bool | .non => true | _ => false
def dIs : D → D → Option D | d, .non => some (.bl d.isN) | _, _ => none
def dIsNot : D → D → Option D | d, .non => some (.bl (!d.isN)) | _, _ => none
def rIsN : R2 := fun y z H Q => z = .non ∧ Q (.bl (decide (y = .non))) H
def rNotN : R2 := fun y z H Q => z = .non ∧ Q (.bl (!decide (y = .non))) H
theorem op_isNN {X : Cx} : OpR X (compareOp .Is) rIsN := op_isN
theorem Rp.isN {F : Hp} {v : V} {d : D} (r : Rp K ct.ad F v d) : decide (v = .non) = d.isN := by cases r <;> rfl
theorem o_is : O2 K ct.ad rIsN dIs := by
  intro F H x y d e z Q s r1 r2 e1 q
  cases e <;> cases e1
  cases r2
  exact ⟨rfl, by rw [r1.isN]; exact q _ (.bl _)⟩
/-! ### and, or, not, conditional -/
section
variable {X : Cx} {a b c d : Expr} {fa fb fc fd : Ev} {ta tb : M Bool} {pos : Pos}
def tNo (t : M Bool) : M Bool := bnd t fun b => pur (!b)
def tAn (t u : M Bool) : M Bool := bnd t fun b => if b then u else pur false
def tOo (t u : M Bool) : M Bool := bnd t fun b => if b then pur true else u
theorem w_no {Q : Bool → Hp → Prop} (h : TB K ct W (tNo ta) σ H Q) : tNot (TB K ct W ta) σ H Q := by
  obtain ⟨fr, F, ρ, S, h⟩ := h
  exact h.bnd S fun F1 H1 ρ1 v d s1 S1 r1 h => h.ok _ F1 H1 (Same.refl _) S1 (by cases r1; rfl)
theorem w_an {Q : Bool → Hp → Prop} (h : TB K ct W (tAn ta tb) σ H Q) : tAnd (TB K ct W ta) (TB K ct W tb) σ H Q := by
  obtain ⟨fr, F, ρ, S, h⟩ := h
  refine h.bnd S fun F1 H1 ρ1 v d s1 S1 r1 h => ?_
  cases r1
  cases v with
  | true => exact h.to S1
  | false => exact h.ok _ F1 H1 (Same.refl _) S1 rfl
theorem w_oo {Q : Bool → Hp → Prop} (h : TB K ct W (tOo ta tb) σ H Q) : tOr (TB K ct W ta) (TB K ct W tb) σ H Q := by
  obtain ⟨fr, F, ρ, S, h⟩ := h
  refine h.bnd S fun F1 H1 ρ1 v d s1 S1 r1 h => ?_
  cases r1
  cases v with
  | false => exact h.to S1
  | true => exact h.ok _ F1 H1 (Same.refl _) S1 rfl
theorem pp_tno (h : PT X a (TB K ct W ta)) : PT X (.UnaryOp .Not a pos) (TB K ct W (tNo ta)) := (pt_not h).imp fun _ _ _ => w_no
theorem pp_wan {rest : List Expr} (ha : PT X a (TB K ct W ta)) (hb : PW X (.BoolOp .And (b :: rest) pos) (TB K ct W tb)) : PW X (.BoolOp .And (a :: b :: rest) pos) (TB K ct W (tAn ta tb)) := (pw_and ha hb).imp fun _ _ _ => w_an
theorem pp_woo {rest : List Expr} (ha : PT X a (TB K ct W ta)) (hb : PW X (.BoolOp .Or (b :: rest) pos) (TB K ct W tb)) : PW X (.BoolOp .Or (a :: b :: rest) pos) (TB K ct W (tOo ta tb)) := (pw_or ha hb).imp fun _ _ _ => w_oo
/-- .. as values -/
def vNo (m : Ev) : Ev := bnd (tst m) fun b => vD (.bl (!b))
def vAn (m n : Ev) : Ev := bnd (tst m) fun b => if b then bnd (dat n) vD else vD (.bl false)
def vOo (m n : Ev) : Ev := bnd (tst m) fun b => if b then vD (.bl true) else bnd (dat n) vD
def vIf (t : M Bool) (m n : Ev) : Ev := bnd t fun b => if b then m else n
theorem Tat.tstT {δ γ : Type} {R' : Rel3 δ γ} {m : Ev} {k : Bool → M γ} {Q : δ → Hp → Prop} {Q1 : V → Hp → Prop} (h : Tat K ct R' W fr F ρ (PL.bnd (PL.tst m) k) σ Q)
    (hq : ∀ F1 H1 ρ1 b, Same F F1 → Rel K ct fr F1 H1 σ ρ1 → Tat K ct R' W fr F1 ρ1 (k b) σ Q → Q1 (.bl b) H1) : Tat K ct (RV K ct.ad) W fr F ρ m σ Q1 := by
  have e : PL.bnd (PL.tst m) k = PL.bnd (PL.dat m) fun x => match x with | .bl b => k b | _ => fai := by
    funext ρ
    unfold PL.tst PL.bnd
    cases em : PL.dat m ρ with
    | none => rfl
    | some x =>
      obtain ⟨r1, ρ1⟩ := x
      cases r1 with
      | ok a => cases a <;> rfl
      | er c pl => rfl
  rw [e] at h
  refine h.datT fun F1 H1 ρ1 v d s1 S1 r1 h => ?_
  cases d with
  | bl b =>
    cases r1
    exact hq F1 H1 ρ1 b s1 S1 h
  | _ => obtain ⟨_, _, e, _⟩ := h; cases e
theorem Tat.tst {δ γ : Type} {R' : Rel3 δ γ} {m : Ev} {k : Bool → M γ} {Q : δ → Hp → Prop} {Q1 : V → Hp → Prop} (h : Tat K ct R' W fr F ρ (PL.bnd (PL.tst m) k) σ Q) (S : Rel K ct fr F H σ ρ)
    (hq : ∀ F1 H1 ρ1 b, Same F F1 → Rel K ct fr F1 H1 σ ρ1 → Tat K ct R' W fr F1 ρ1 (k b) σ Q → Q1 (.bl b) H1) : T K ct (RV K ct.ad) W m σ H Q1 := ⟨fr, F, ρ, S, h.tstT hq⟩
theorem w_vno {Q : VK} (h : TP K ct W (vNo fa) σ H Q) : tNotV (TP K ct W fa) σ H Q := by
  obtain ⟨fr, F, ρ, S, h⟩ := h
  exact h.tst S fun F1 H1 ρ1 b s1 S1 h => ⟨b, rfl, h.ok _ F1 H1 (Same.refl _) S1 (Rp.bl _)⟩
theorem w_van {Q : VK} (h : TP K ct W (vAn fa fb) σ H Q) : tAndV (TP K ct W fa) (TP K ct W fb) σ H Q := by
  obtain ⟨fr, F, ρ, S, h⟩ := h
  refine h.tst S fun F1 H1 ρ1 b s1 S1 h => ⟨b, rfl, ?_⟩
  cases b with
  | true =>
    rw [if_pos rfl]
    have h : Tat K ct (RV K ct.ad) W fr F1 ρ1 (bnd (dat fb) vD) σ Q := h
    exact h.dat S1 fun F2 H2 ρ2 v d s2 S2 r2 h => h.ok _ F2 H2 (Same.refl _) S2 r2
  | false =>
    (rw [if_neg Bool.false_ne_true])
    exact Tat.ok (a := Rv.d (.bl false)) h _ F1 H1 (Same.refl _) S1 (Rp.bl _)
theorem pp_vno (h : PE X a (TP K ct W fa)) : PE X (.UnaryOp .Not a pos) (TP K ct W (vNo fa)) := (pe_not h).imp fun _ _ _ => w_vno
theorem pp_van {rest : List Expr} (ha : PE X a (TP K ct W fa)) (hb : PE X (.BoolOp .And (b :: rest) pos) (TP K ct W fb)) : PE X (.BoolOp .And (a :: b :: rest) pos) (TP K ct W (vAn fa fb)) := (pe_and ha hb).imp fun _ _ _ => w_van
/-! a op b op' c -/
def ch2 (g g' : D → D → Option D) (a b c : Ev) : Ev := bnd (dat a) fun x => bnd (dat b) fun y => bnd (opt (g x y)) fun z => match z with
  | .bl true => bnd (dat c) fun u => opt ((g' y u).map Rv.d)
  | .bl false => vD (.bl false)
  | _ => fai
theorem Tat.optb {δ γ : Type} {R' : Rel3 δ γ} {o : Option D} {k : D → M γ} {Q : δ → Hp → Prop} (h : Tat K ct R' W fr F ρ (PL.bnd (PL.opt o) k) σ Q) : ∃ z, o = some z ∧ Tat K ct R' W fr F ρ (k z) σ Q := by
  cases o with
  | none => obtain ⟨_, _, e, _⟩ := h; cases e
  | some z => exact ⟨z, rfl, h⟩
theorem w_ch2 {r r' : R2} {g g' : D → D → Option D} (O : O2 K ct.ad r g) (O' : O2 K ct.ad r' g') {Q : VK} (h : TP K ct W (ch2 g g' fa fb fc) σ H Q) : tChain r r' (TP K ct W fa) (TP K ct W fb) (TP K ct W fc) σ H Q := by
  obtain ⟨fr, F, ρ, S, h⟩ := h
  refine h.dat S fun F1 H1 ρ1 v d s1 S1 r1 h => ?_
  refine h.dat S1 fun F2 H2 ρ2 u e s2 S2 r2 h => ?_
  obtain ⟨z, e1, h⟩ := h.optb
  refine O S2.fh (r1.mono s2) r2 e1 fun w rw_ => ?_
  cases z with
  | bl k =>
    cases rw_
    refine ⟨k, rfl, ?_⟩
    cases k with
    | false =>
      (rw [if_neg Bool.false_ne_true])
      exact Tat.ok (a := Rv.d (.bl false)) h _ F2 H2 (Same.refl _) S2 (Rp.bl _)
    | true =>
      rw [if_pos rfl]
      refine Tat.dat (k := fun w => opt ((g' e w).map Rv.d)) h S2 fun F3 H3 ρ3 v3 d3 s3 S3 r3 h => ?_
      obtain ⟨y, e3, q⟩ := h.opt
      obtain ⟨y', e4, rfl⟩ := map_some e3
      exact O' S3.fh (r2.mono s3) r3 e4 fun w' rw' => q w' F3 H3 (Same.refl _) S3 rw'
  | _ => obtain ⟨_, _, e, _⟩ := h; cases e
theorem pp_ch2 {op op' : CmpOp} {r r' : R2} {g g' : D → D → Option D} (ho : OpR X (compareOp op) r) (ho' : OpR X (compareOp op') r') (O : O2 K ct.ad r g) (O' : O2 K ct.ad r' g') (ha : PE X a (TP K ct W fa)) (hb : PE X b (TP K ct W fb)) (hc : PE X c (TP K ct W fc))
    (hm : lastMarks [op, op'] [b, c] = false := by with_unfolding_all rfl) : PE X (.Compare a [op, op'] [b, c] pos) (TP K ct W (ch2 g g' fa fb fc)) := (pe_chain ho ho' ha hb hc hm).imp fun _ _ _ => w_ch2 O O'
end
end PL
end
section
namespace PL
open PySem PySem.Spec PyProof.Rows L2
variable {K : PySem.W.Frag} {ad : Cl → Addr} {ct : CT}
variable {fr : Fr} {F F' H H' : Hp} {σ : L2.St} {ρ : List Sl} {W : WX}
/-- a tuple's sum -/
def rCatD (K : PySem.W.Frag) : R2 := rCatA K
/-! ### fields -/
theorem look_zip {f : Str} : ∀ {ks : List Str} {vs : List V} {i : Nat}, ks.length = vs.length → ks.findIdx? (fun k => f == k) = some i → (ks.zip vs).lookup f = vs[i]?
  | [], _, _, _, h =>
    by simp at h
  | k :: ks, [], _, l, _ => by simp at l
  | k :: ks, v :: vs, i, l, h => by
    rw [List.zip_cons_cons, List.lookup_cons]
    rw [List.findIdx?_cons] at h
    cases e : f == k with
    | true =>
      rw [e] at h
      cases h
      rfl
    | false =>
      rw [e] at h
      have h : Option.map (fun i => i + 1) (ks.findIdx? (fun k => f == k)) = some i := h
      obtain ⟨j, h1, rfl⟩ := map_some h
      rw [look_zip (by simpa using l) h1]
      rfl
theorem look_no {f : Str} : ∀ {ks : List Str} {vs : List V}, ks.findIdx? (fun k => f == k) = none → (ks.zip vs).lookup f = none
  | [], _, _ => by simp
  | k :: ks, [], _ => by simp
  | k :: ks, v :: vs, h => by
    rw [List.zip_cons_cons, List.lookup_cons]
    rw [List.findIdx?_cons] at h
    cases e : f == k with
    | true => rw [e] at h; cases h
    | false =>
      rw [e] at h
      have h : Option.map (fun i => i + 1) (ks.findIdx? (fun k => f == k)) = none := h
      cases e2 : ks.findIdx? (fun k => f == k) with
      | none => exact look_no e2
      | some j => rw [e2] at h; cases h
def dFld (c : Cl) (i : Nat) : D → Option D | .obj c' xs => if c' = c then xs[i]? else none | _ => none
theorem pp_fld {X : Cx} {e : Expr} {fe : Ev} {f : Str} {pos : Pos} (c : Cl) (i : Nat) (eK : X.K = K) (hc : Cls K (ct.ad c)) (hn : NoAttr K (ct.ad c) f) (he : PE X e (TP K ct W fe)) (hi : c.fn.findIdx? (fun k => f == k) = some i := by decide)
    (hb : attributeBase e f X.env (eval e X.env) = eval e X.env := by rfl) : PE X (.Attribute e f pos) (TP K ct W (ev1 (dFld c i) fe)) := by
  subst eK
  refine (pe_fld he hb).imp fun σ H Q h => ?_
  obtain ⟨fr, F, ρ, S, h⟩ := h
  refine h.dat S fun F1 H1 ρ1 v d s1 S1 r1 h => ?_
  obtain ⟨z, e1, q⟩ := h.opt
  obtain ⟨y, e2, rfl⟩ := map_some e1
  cases d <;> try cases e2
  rename_i c' xs
  cases r1 with
  | @obj p dx _ vs _ h1 l1 k1 =>
    have e3 : (if c' = c then xs[i]? else none) = some y := e2
    clear e2
    split at e3
    · rename_i ec
      subst ec
      obtain ⟨v, hv, rv⟩ := k1.get e3
      exact ⟨p, ct.ad c', dx, _, v, rfl, S1.fh _ _ h1, hc, hn, by rw [look_zip l1 hi, hv], q v F1 H1 (Same.refl _) S1 rv⟩
    · cases e3
/-! ### subscripts -/
def dIx : D → D → Option D
  | .lst xs, .int i => atI xs i | .sq xs, .int i => atI xs i | .tup xs, .int i => atI xs i
  | .str z, .int i => if z.length ≤ 16777216 then (atI z.cps.toList i).map fun c => .str ⟨#[c]⟩ else none
  | _, _ => none
theorem Rps.atI {F : Hp} {vs : List V} {ds : List D} {i : Int} {d : D} (h : Rps K ct.ad F vs ds) (e : L2.atI ds i = some d) : ∃ v, L2.atI vs i = some v ∧ Rp K ct.ad F v d := by
  unfold L2.atI at e ⊢
  rw [h.len]
  cases q : ixN ds.length i with
  | none =>
    rw [q] at e
    cases e
  | some j =>
    rw [q] at e
    exact h.get e
theorem o_ix : O2 K ct.ad (rIx K) dIx := by
  intro F H x y d e z Q s r1 r2 e1 q
  cases d <;> cases e <;> try cases e1
  · rename_i t i
    cases r1; cases r2
    have e1 : (if t.length ≤ 16777216 then (atI t.cps.toList i).map fun c => D.str ⟨#[c]⟩ else none) = some z := e1
    split at e1
    · rename_i h
      obtain ⟨c, h1, rfl⟩ := map_some e1
      exact .inr (.inr ⟨t, i, c, rfl, rfl, h, h1, q _ (.str _)⟩)
    · cases e1
  · cases r2
    cases r1 with
    | tup h k => obtain ⟨v, h1, h2⟩ := k.atI e1; exact .inr (.inl ⟨_, _, _, v, rfl, rfl, sameT s h, h1, q v h2⟩)
  · cases r2
    cases r1 with
    | lst h k => obtain ⟨v, h1, h2⟩ := k.atI e1; exact .inl ⟨_, _, _, v, rfl, rfl, SqL.of (s _ _ h), h1, q v h2⟩
  · cases r2
    cases r1 with
    | sq h k => obtain ⟨v, h1, h2⟩ := k.atI e1; exact .inl ⟨_, _, _, v, rfl, rfl, s.seq h, h1, q v h2⟩
theorem ix_seqK {X : Cx} (eK : X.K = K) : IxR X (rIx K) := by subst eK; exact ix_seq
theorem pp_ix {X : Cx} {a b : Expr} {fa fb : Ev} {pos : Pos} (eK : X.K = K) (ha : PE X a (TP K ct W fa)) (hb : PE X b (TP K ct W fb)) (hs : PlainIx b) : PE X (.Subscript a b pos) (TP K ct W (ev2 dIx fa fb)) := (pe_ix (ix_seqK eK) ha hb hs).imp fun _ _ _ => w_2 o_ix
/-! slices -/
def cut {α : Type} (xs : List α) (lo hi : Option Int) : List α := (xs.drop (HT.sIx xs.length 0 lo)).take (HT.sIx xs.length xs.length hi - HT.sIx xs.length 0 lo)
theorem Rps.cut {F : Hp} {vs : List V} {ds : List D} (h : Rps K ct.ad F vs ds) (lo hi : Option Int) : Rps K ct.ad F (cutV vs lo hi) (PL.cut ds lo hi) := by
  unfold cutV PL.cut
  rw [h.len]
  exact (h.drop _).take _
def dPart : Option Ev → M (Option Int)
  | none => pur none
  | some m => bnd (dat m) fun d => match d with | .int i => pur (some i) | _ => fai
def RO : Rel3 (Option Int) (Option Int) := fun _ _ _ _ _ a b => a = b
def evSl (m : Ev) (lo hi : Option Ev) : Ev := bnd (dat m) fun x => bnd (dPart lo) fun l => bnd (dPart hi) fun u => match x with
  | .lst xs => pur (.c (.lst (cut xs l u)))
  | .sq xs => pur (.c (.lst (cut xs l u)))
  | .tup xs => vD (.tup (cut xs l u))
  | .str z => if z.length ≤ 16777216 then vD (.str (cutS z l u)) else fai
  | _ => fai
def rSlD (K : PySem.W.Frag) : V → Option Int → Option Int → Hp → VK → Prop := fun x lo hi H Q => rSlL K x lo hi H Q ∨ rSlA K x lo hi H Q ∨ rSlS x lo hi H Q
/-! ### displays -/
inductive DE | e (m : Ev) | s (m : Ev)
def D.items : D → Option (List D) | .lst xs => some xs | .sq xs => some xs | .tup xs => some xs | _ => none
def evDs : List DE → M (List D)
  | [] => pur []
  | .e m :: r => bnd (dat m) fun d => bnd (evDs r) fun ds => pur (d :: ds)
  | .s m :: r => bnd (dat m) fun d => bnd (opt d.items) fun xs => bnd (evDs r) fun ds => pur (xs ++ ds)
variable (K ct) in
abbrev TD (W : WX) (m : M (List D)) : TA := T K ct (RDs K ct.ad) W m
theorem pd_n {X : Cx} : PA X [] (TD K ct W (evDs [])) := pa_nil.imp fun σ H Q h => by
  obtain ⟨fr, F, ρ, S, h⟩ := h
  exact Tat.ok (a := ([] : List D)) h [] F H (Same.refl _) S Rps.nil
theorem pd_c {X : Cx} {e : Expr} {es : List Expr} {m : Ev} {r : List DE} (he : PE X e (TP K ct W m)) (hr : PA X es (TD K ct W (evDs r)))
    (hs : starEach (e :: es) X.env = (false, eval e X.env) :: starEach es X.env := by rfl) : PA X (e :: es) (TD K ct W (evDs (.e m :: r))) := (pa_cons he hr hs).imp fun σ H Q h => by
  obtain ⟨fr, F, ρ, S, h⟩ := h
  refine Tat.dat h S fun F1 H1 ρ1 v d s1 S1 r1 h => ?_
  refine Tat.bnd h S1 fun F2 H2 ρ2 vs ds s2 S2 r2 h => ?_
  exact Tat.ok (a := d :: ds) h _ F2 H2 (Same.refl _) S2 (Rps.cons (r1.mono s2) r2)
def evTup (es : List DE) : Ev := bnd (evDs es) fun ds => if ds.length ≤ 16777216 then vD (.tup ds) else fai
def evLst (es : List DE) : Ev := bnd (evDs es) fun ds => if ds.length ≤ 16777216 then pur (.c (.lst ds)) else fai
theorem pp_tup {X : Cx} {es : List Expr} {x1 : Nat} {r : List DE} {pos : Pos} (h : PA X es (TD K ct W (evDs r))) : PE X (.Tuple es x1 pos) (TP K ct W (evTup r)) := (pe_tup h).imp fun σ H Q h => by
  obtain ⟨fr, F, ρ, S, h⟩ := h
  refine Tat.bnd h S fun F1 H1 ρ1 vs ds s1 S1 r1 h => ?_
  have h : Tat K ct (RV K ct.ad) W fr F1 ρ1 (if ds.length ≤ 16777216 then vD (.tup ds) else fai) σ Q := h
  split at h
  · rename_i hz
    refine ⟨by rw [Rps.len r1]; exact hz, fun p hp => ?_⟩
    exact Tat.ok (a := Rv.d (.tup ds)) h _ (upd F1 p (.tup vs)) _ (same_up (S1.nn hp)) (S1.newD hp) (Rp.tup (SqT.of upd_same) (Rps.mono (same_up (S1.nn hp)) r1))
  · obtain ⟨_, _, e, _⟩ := h; cases e
theorem pp_lst {X : Cx} {es : List Expr} {r : List DE} {pos : Pos} (h : PA X es (TD K ct W (evDs r))) : PE X (.List es pos) (TP K ct W (evLst r)) := (pe_lst h).imp fun σ H Q h => by
  obtain ⟨fr, F, ρ, S, h⟩ := h
  refine Tat.bnd h S fun F1 H1 ρ1 vs ds s1 S1 r1 h => ?_
  have h : Tat K ct (RV K ct.ad) W fr F1 ρ1 (if ds.length ≤ 16777216 then pur (.c (.lst ds)) else fai) σ Q := h
  split at h
  · rename_i hz
    refine ⟨by rw [Rps.len r1]; exact hz, fun p hp => ?_⟩
    exact Tat.ok (a := Rv.c (.lst ds)) h _ F1 _ (Same.refl _) (S1.newC hp) ⟨p, rfl, S1.fresh hp ⟨_, upd_same, r1⟩⟩
  · obtain ⟨_, _, e, _⟩ := h; cases e
/-! ### texts that are put together -/
def dFmt : D → Option D
  | .str s => if s.length ≤ 16777216 then some (.str s) else none
  | .int i => if i.natAbs.log2 < 1920 then some (.str (toString i)) else none
  | _ => none
theorem pp_fmt {X : Cx} {e : Expr} {m : Ev} {pos : Pos} (he : PE X e (TP K ct W m)) : PE X (.FormattedValue e (-1) none pos) (TP K ct W (ev1 dFmt m)) := (pe_fmt he).imp fun σ H Q h => by
  obtain ⟨fr, F, ρ, S, h⟩ := h
  refine Tat.dat h S fun F1 H1 ρ1 v d s1 S1 r1 h => ?_
  obtain ⟨z, e1, q⟩ := h.opt
  obtain ⟨y, e2, rfl⟩ := map_some e1
  cases d with
  | str s =>
    have e2 : (if s.length ≤ 16777216 then some (D.str s) else none) = some y := e2
    split at e2
    · rename_i hz; cases e2; cases r1; exact .inl ⟨s, rfl, hz, q _ F1 H1 (Same.refl _) S1 (Rp.str _)⟩
    · cases e2
  | int i =>
    have e2 : (if i.natAbs.log2 < 1920 then some (D.str (toString i)) else none) = some y := e2
    split at e2
    · rename_i hz; cases e2; cases r1; exact .inr ⟨i, rfl, hz, q _ F1 H1 (Same.refl _) S1 (Rp.str _)⟩
    · cases e2
  | _ => cases e2
def evJs : List Ev → Str → M Str
  | [], acc => pur acc
  | m :: ms, acc => bnd (dat m) fun d => match d with | .str y => if (acc ++ y).length ≤ 16777216 then evJs ms (acc ++ y) else fai | _ => fai
variable (K ct) in
inductive PJs (X : Cx) (W : WX) : List Expr → List Ev → Prop where
  | nil : PJs X W [] []
  | cons {e : Expr} {m : Ev} {es : List Expr} {ms : List Ev} (h : PE X e (TP K ct W m)) (r : PJs X W es ms) : PJs X W (e :: es) (m :: ms)
theorem PJs.pj {X : Cx} : ∀ {es : List Expr} {ms : List Ev}, PJs K ct X W es ms → PJ X es (ms.map (TP K ct W))
  | _, _, .nil => .nil
  | _, _, .cons h r => .cons h r.pj
theorem w_js {fr : Fr} {Q : VK} : ∀ {ms : List Ev} {acc : Str} {F H : Hp} {ρ : List Sl}, Rel K ct fr F H σ ρ → Tat K ct (RV K ct.ad) W fr F ρ (bnd (evJs ms acc) fun s => vD (.str s)) σ Q → tJs (ms.map (TP K ct W)) acc σ H fun out H1 => Q (.str out) H1
  | [], acc, F, H, ρ, S, h => Tat.ok (a := Rv.d (.str acc)) h _ F H (Same.refl _) S (Rp.str _)
  | m :: ms, acc, F, H, ρ, S, h => by
    have e : bnd (evJs (m :: ms) acc) (fun s => vD (.str s)) = bnd (dat m) fun d => bnd (match d with | .str y => if (acc ++ y).length ≤ 16777216 then evJs ms (acc ++ y) else fai | _ => fai) fun s => vD (.str s) := by
      funext ρ
      show bnd (bnd (dat m) _) _ ρ = _
      unfold bnd
      cases em : dat m ρ with
      | none => rfl
      | some x =>
        obtain ⟨r1, ρ1⟩ := x
        cases r1 <;> rfl
    rw [e] at h
    refine Tat.dat h S fun F1 H1 ρ1 v d s1 S1 r1 h => ?_
    cases d with
    | str y =>
      cases r1
      have h : Tat K ct (RV K ct.ad) W fr F1 ρ1 (bnd (if (acc ++ y).length ≤ 16777216 then evJs ms (acc ++ y) else fai) fun s => vD (.str s)) σ Q := h
      split at h
      · rename_i hz
        exact ⟨y, rfl, hz, w_js S1 h⟩
      · obtain ⟨_, _, e, _⟩ := h; cases e
    | _ => obtain ⟨_, _, e, _⟩ := h; cases e
def evJn (ms : List Ev) : Ev := bnd (evJs ms Str.empty) fun s => vD (.str s)
theorem pp_joined {X : Cx} {v1 v2 : Expr} {rest : List Expr} {ms : List Ev} {pos : Pos} (h : PJs K ct X W (v1 :: v2 :: rest) ms) : PE X (.JoinedStr (v1 :: v2 :: rest) pos) (TP K ct W (evJn ms)) := (pe_joined h.pj).imp fun σ H Q h => by
  obtain ⟨fr, F, ρ, S, h⟩ := h
  exact w_js S h
def D.strs : List D → Option (List Str)
  | [] => some []
  | .str s :: r => (D.strs r).map (s :: ·)
  | _ :: _ => none
def D.ints : List D → Option (List Int)
  | [] => some []
  | .int s :: r => (D.ints r).map (s :: ·)
  | _ :: _ => none
def D.bools : List D → Option (List Bool)
  | [] => some []
  | .bl s :: r => (D.bools r).map (s :: ·)
  | _ :: _ => none
theorem D.ints_eq : ∀ {ds : List D} {ys : List Int}, D.ints ds = some ys → ds = ys.map D.int
  | [], _, h => by cases h; rfl
  | d :: ds, _, h => by
    cases d <;> try cases h
    obtain ⟨r, h1, rfl⟩ := map_some h
    rw [D.ints_eq h1]; rfl
theorem D.ints_map : ∀ ys : List Int, D.ints (ys.map D.int) = some ys
  | [] => rfl
  | y :: ys => by rw [List.map_cons, D.ints, D.ints_map ys]; rfl
def dJoin (a : Str) (d : D) : Option D := (d.items.bind D.strs).bind fun ys => if (ys.map (·.length)).sum + ys.length * a.length ≤ 16777216 then some (.str (Txt.join a ys)) else none
def evJoin (o e : Ev) : Ev := bnd (dat o) fun x => match x with
  | .str a => bnd (dat e) fun d => opt ((dJoin a d).map Rv.d)
  | _ => fai
/-- how items lie: a list or a tuple -/
theorem Rp.seq {F H : Hp} {v : V} {d : D} {xs : List D} (s : Same F H) (r : Rp K ad F v d) (h : d.items = some xs) : ∃ p vs, v = .ref p ∧ (SqL K H p vs ∨ SqT K H p vs) ∧ Rps K ad F vs xs := by
  cases d <;> try cases h
  · cases r with | tup h k => exact ⟨_, _, rfl, .inr (sameT s h), k⟩
  · cases r with | lst h k => exact ⟨_, _, rfl, .inl (SqL.of (s _ _ h)), k⟩
  · cases r with | sq h k => exact ⟨_, _, rfl, .inl (s.seq h), k⟩
end PL
end
section
namespace PL
open PySem PySem.Spec PyProof.Rows L2
variable {K : PySem.W.Frag} {ad : Cl → Addr} {ct : CT}
variable {fr : Fr} {F F' H H' : Hp} {σ : L2.St} {ρ : List Sl} {W : WX}
/-! ### defs -/
abbrev Fn := M Rv
variable (K ad) in
def spP (n : Nat) (G : Fn) : Sp := fun vs H Q E => vs.length = n ∧ ∃ fr F ss, Rel K (cx ad) fr F H (vs.map some) ss ∧ (∀ b, (∀ j, fr.pa j ≠ some b) → fr.P b = H b) ∧ fr.F0 = F ∧ Tat K (cx ad) (RV K ad) (fun cls d _ H' => E cls d H') fr F ss G (vs.map some) Q
variable (K ct) in
def Sat (W : WX) (D : Ends) (fr : Fr) (F : Hp) (ρ : List Sl) (s : M Fl) : Prop := ∃ r ρ', s ρ = some (r, ρ') ∧ match r with
  | .ok .nx => ∀ σ' F' H', Same F F' → Rel K ct fr F' H' σ' ρ' → D.nx σ' H'
  | .ok .bk => ∀ σ' F' H', Same F F' → Rel K ct fr F' H' σ' ρ' → D.bk σ' H'
  | .ok .ct => ∀ σ' F' H', Same F F' → Rel K ct fr F' H' σ' ρ' → D.ct σ' H'
  | .ok (.rt x) => ∀ σ' v F' H', Same F F' → Rel K ct fr F' H' σ' ρ' → RV K ct.ad fr F' H' σ' ρ' v x → D.rt v H'
  | .er c pl => ∀ σ' d F' H', Same F F' → Rel K ct fr F' H' σ' ρ' → PlR K ct.ad F' c pl d → W (.ref (ct.ad c)) d σ' H'
variable (K ct) in
def TSt (W : WX) (s : M Fl) : TS := fun D σ H => ∃ fr F ρ, Rel K ct fr F H σ ρ ∧ Sat K ct W D fr F ρ s
def outs : List Sl → List Sl → List Sl
  | .dat d :: ss, ρ => .dat d :: outs ss ρ.tail
  | .cel .par c :: ss, ρ => (ρ.head?.getD .un) :: outs ss ρ.tail
  | _ :: ss, ρ => .un :: outs ss ρ.tail
  | [], _ => []
theorem outs_len : ∀ (ss ρ : List Sl), (outs ss ρ).length = ss.length
  | [], _ => rfl
  | s :: ss, ρ => by cases s <;> first | exact congrArg (· + 1) (outs_len ss _) | (rename_i k c; cases k <;> exact congrArg (· + 1) (outs_len ss _))
theorem outs_get : ∀ (ss ρ : List Sl) (i : Nat) (s : Sl), (outs ss ρ)[i]? = some s → (∃ d, ss[i]? = some (.dat d) ∧ s = .dat d) ∨ (∃ c, ss[i]? = some (.cel .par c) ∧ s = (ρ[i]?).getD .un) ∨ s = .un
  | [], _, _, _, h => by simp [outs] at h
  | x :: ss, ρ, 0, s, h => by
    cases x with
    | dat d => simp only [outs, List.getElem?_cons_zero, Option.some.injEq] at h; exact .inl ⟨d, rfl, h.symm⟩
    | cel k c =>
      cases k <;> simp only [outs, List.getElem?_cons_zero, Option.some.injEq] at h
      all_goals first
        | exact .inr (.inr h.symm)
        | (refine .inr (.inl ⟨c, rfl, ?_⟩); rw [← h]; cases ρ <;> rfl)
    | un => simp only [outs, List.getElem?_cons_zero, Option.some.injEq] at h; exact .inr (.inr h.symm)
    | exn c pl => simp only [outs, List.getElem?_cons_zero, Option.some.injEq] at h; exact .inr (.inr h.symm)
  | x :: ss, ρ, i + 1, s, h => by
    have e : (outs (x :: ss) ρ)[i + 1]? = (outs ss ρ.tail)[i]? := by
      cases x <;> first | rfl | (rename_i k c; cases k <;> rfl)
    rw [e] at h
    have t : ρ.tail[i]? = ρ[i + 1]? := by cases ρ <;> simp
    have z := outs_get ss ρ.tail i s h
    rw [t] at z
    simpa using z
theorem outs_par : ∀ (ss ρ : List Sl) (i : Nat) (c : CC), ss[i]? = some (.cel .par c) → (outs ss ρ)[i]? = some ((ρ[i]?).getD .un)
  | [], _, _, _, h =>
    by simp at h
  | x :: ss, ρ, 0, c, h => by
    (simp only [List.getElem?_cons_zero, Option.some.injEq] at h)
    subst h
    cases ρ <;> rfl
  | x :: ss, ρ, i + 1, c, h => by
    have e : (outs (x :: ss) ρ)[i + 1]? = (outs ss ρ.tail)[i]? := by
      cases x <;> first | rfl | (rename_i k c; cases k <;> rfl)
    have t : ρ.tail[i]? = ρ[i + 1]? := by cases ρ <;> simp
    rw [e, outs_par ss ρ.tail i c (by simpa using h), t]
def runB (k : Nat) (s : M Fl) : Fn := fun ss => match s (ss ++ List.replicate k .un) with
  | some (.ok .nx, ρ) => some (.ok (.d .non), outs ss ρ)
  | some (.ok (.rt r), ρ) => some (.ok r, outs ss ρ)
  | some (.er c pl, ρ) => some (.er c pl, outs ss ρ)
  | _ => none
theorem Rel.outs {fr : Fr} {F F' H H' : Hp} {vs : List V} {ss : List Sl} {σ' : L2.St} {ρ' : List Sl} (S : Rel K ct fr F H (vs.map some) ss) (S' : Rel K ct fr F' H' σ' ρ') (s : Same F F') : Rel K ct fr F' H' (vs.map some) (PL.outs ss ρ') := by
  have cl : ∀ {i : Nat} {k : CK} {c : CC}, (PL.outs ss ρ')[i]? = some (.cel k c) → ∃ c0 p, ss[i]? = some (.cel .par c0) ∧ ρ'[i]? = some (.cel k c) ∧ fr.pa i = some p ∧ (vs.map some)[i]? = some (some (.ref p)) := fun {i k c} e => by
    rcases outs_get ss ρ' i _ e with ⟨d, _, z⟩ | ⟨c0, h1, h2⟩ | z
    · cases z
    · have h3 : ρ'[i]? = some (.cel k c) := by
        cases q : ρ'[i]? with
        | none => rw [q] at h2; cases h2
        | some x => rw [q] at h2; exact congrArg some h2.symm
      obtain ⟨o, g1, p, g2, g3, g4, g5, g6, g7⟩ := S.slot i _ h1
      subst g2
      exact ⟨c0, p, h1, h3, g5 rfl, g1⟩
    · cases z
  refine ⟨by rw [outs_len]; exact S.len, S'.fh, fun i s0 e => ?_, fun i j k c k' c' p e1 e2 h1 h2 => ?_, S'.keep, S'.fro, fun i p e => ?_⟩
  · rcases outs_get ss ρ' i _ e with ⟨d, h1, rfl⟩ | ⟨c0, h1, h2⟩ | rfl
    · obtain ⟨o, g1, v, g2, g3⟩ := S.slot i _ h1
      exact ⟨o, g1, v, g2, g3.mono s⟩
    · obtain ⟨o, g1, p, g2, g3, g4, g5, g6, g7⟩ := S.slot i _ h1
      have pi := g5 rfl
      obtain ⟨k, c, q1, q2⟩ := S'.pcs i p pi
      rw [q1] at h2
      have h2 : s0 = .cel k c := h2
      subst h2
      obtain ⟨o', w1, p', w2, w3, w4, w5, w6, w7⟩ := S'.slot i _ q1
      have := w5 q2
      rw [pi] at this
      cases this
      subst g2
      exact ⟨_, g1, _, rfl, w3, w4, w5, w6, w7⟩
    · obtain ⟨l, _⟩ := List.getElem?_eq_some_iff.mp e
      rw [outs_len, ← S.len] at l
      exact ⟨_, List.getElem?_eq_getElem l, trivial⟩
  · obtain ⟨_, _, a1, _, _, _⟩ := cl e1
    obtain ⟨_, _, a2, _, _, _⟩ := cl e2
    exact S.dis i j _ _ _ _ p a1 a2 h1 h2
  · obtain ⟨k, c, h1, h2⟩ := S.pcs i p e
    obtain ⟨k', c', q1, q2⟩ := S'.pcs i p e
    have hk : k = .par := by cases k <;> simp [CK.isPar] at h2 ⊢
    subst hk
    obtain ⟨l, _⟩ := List.getElem?_eq_some_iff.mp h1
    have l2 : i < (PL.outs ss ρ').length := by rw [outs_len]; exact l
    rcases outs_get ss ρ' i _ (List.getElem?_eq_getElem l2) with ⟨d, z, _⟩ | ⟨c0, z1, z2⟩ | z
    · rw [h1] at z; cases z
    · refine ⟨k', c', ?_, q2⟩
      rw [List.getElem?_eq_getElem l2, z2, q1]; rfl
    · obtain ⟨o, g1, p', g2, g3, g4, g5, g6, g7⟩ := S.slot i _ h1
      have e2 := outs_par ss ρ' i c h1
      rw [List.getElem?_eq_getElem l2, z, q1] at e2
      cases e2
/-- the end of a body is the def's end -/
theorem body_end {n k : Nat} {s : M Fl} {vs : List V} {N : List Str} {H : Hp} {Q : VK} {E : XK} (hN : N.length = n + k) (h : spP K ad n (runB k s) vs H Q E) :
    TSt K (cx ad) (fun cls d _ H' => E cls d H') s { nx := fun _ H' => Q .non H', rt := Q } (L2.start N vs) H := by
  obtain ⟨hn, fr, F, ss, S, hP, hF, r, ss', e, q⟩ := h
  have S0 : Rel K (cx ad) fr F H (L2.start N vs) (ss ++ List.replicate k .un) := by
    have l1 : vs.length = ss.length := by have := S.len; rw [List.length_map] at this; exact this
    have ek : N.length - vs.length = k := by omega
    unfold L2.start
    rw [ek]
    have cel : ∀ {i : Nat} {k' : CK} {c : CC}, (ss ++ List.replicate k Sl.un)[i]? = some (.cel k' c) → ss[i]? = some (.cel k' c) := fun {i k' c} z => by
      by_cases l : i < ss.length
      · rw [List.getElem?_append_left l] at z; exact z
      · rw [List.getElem?_append_right (by omega), List.getElem?_replicate] at z
        split at z <;> cases z
    have get : ∀ {i : Nat}, i < ss.length → (vs.map some ++ List.replicate k (none : Option V))[i]? = (vs.map some)[i]? := fun {i} l => List.getElem?_append_left (by rw [List.length_map]; omega)
    refine ⟨by simp [l1], S.fh, fun i s0 z => ?_, fun i j k1 c k2 c' p z1 z2 z3 z4 => ?_, S.keep, S.fro, fun i p z => ?_⟩
    · by_cases l : i < ss.length
      · rw [List.getElem?_append_left l] at z
        obtain ⟨o, g1, g2⟩ := S.slot i s0 z
        exact ⟨o, by rw [get l]; exact g1, g2⟩
      · have l3 := (List.getElem?_eq_some_iff.mp z).1
        rw [List.getElem?_append_right (by omega), List.getElem?_replicate] at z
        split at z
        · cases z
          refine ⟨none, ?_, trivial⟩
          rw [List.getElem?_append_right (by rw [List.length_map]; omega), List.getElem?_replicate, if_pos (by simp at l3 ⊢; omega)]
        · cases z
    · have y1 := cel z1
      have y2 := cel z2
      rw [get (List.getElem?_eq_some_iff.mp y1).1] at z3
      rw [get (List.getElem?_eq_some_iff.mp y2).1] at z4
      exact S.dis i j _ _ _ _ p y1 y2 z3 z4
    · obtain ⟨k1, c, h1, h2⟩ := S.pcs i p z
      exact ⟨k1, c, by rw [List.getElem?_append_left (List.getElem?_eq_some_iff.mp h1).1]; exact h1, h2⟩
  refine ⟨fr, F, _, S0, ?_⟩
  unfold runB at e
  cases em : s (ss ++ List.replicate k .un) with
  | none => rw [em] at e; cases e
  | some x =>
    obtain ⟨r1, ρ1⟩ := x
    rw [em] at e
    refine ⟨r1, ρ1, em, ?_⟩
    cases r1 with
    | er c pl =>
      cases e
      exact fun σ' d F' H' s' S' pr => q d F' H' s' (S.outs S' s') pr
    | ok fl =>
      cases fl with
      | nx => cases e; exact fun σ' F' H' s' S' => q _ F' H' s' (S.outs S' s') Rp.non
      | bk => cases e
      | ct => cases e
      | rt x =>
        cases e
        intro σ' v F' H' s' S' rv
        refine q v F' H' s' (S.outs S' s') ?_
        cases x with
        | d d => exact rv
        | c c =>
          obtain ⟨p, ev, f1, f2, f3, f4, f5⟩ := rv
          refine ⟨p, ev, f1, f2, f3, f4, fun i k' c' z1 z2 => ?_⟩
          have S2 := S.outs S' s'
          obtain ⟨o, g1, p', g2, g3, g4, g5, g6, g7⟩ := S2.slot i _ z1
          rw [g1] at z2
          subst g2
          cases z2
          rcases outs_get ss ρ1 i _ z1 with ⟨d, _, w⟩ | ⟨c0, w1, w2⟩ | w
          · cases w
          · obtain ⟨o, y1, p2, y2, y3, y4, y5, y6, y7⟩ := S.slot i _ w1
            subst y2
            rw [g1] at y1
            cases y1
            exact f3 i (y5 rfl)
          · cases w
section
variable {P : Program} {w : World} {mg : Str → Option Value} {base : Heap} {x qual : Str} {st : Stmt} {f : Addr} {fd : FuncData} {N ps : List Str} {lv : Nat} {n k : Nat} {s : M Fl}
theorem okX (Fd : L2.Fun K x qual st f fd) (S : FnScope N ps (defScope st)) (hp : ps.length = n) (hN : N.length = n + k)
    (hb : ∀ (cdv : Value) (A : Around) (outer : List Env) (s0 : Shared) (H : Hp) (E : XK), Room lv (A.deeper (envOfC qual (defScope st) s0.heap.objs.size f cdv)) →
      PSs (cxOf (L2.CX P w) P w K mg base N qual (defScope st) f cdv A outer s0 H E) (defBody st) (TSt K (cx ad) (fun cls d _ H' => E cls d H') s)) : FnOk P w K mg base (L2.CX P w) (lv + 1) f fd ps (spP K ad n (runB k s)) :=
  Fd.okX S (fun vs H Q E h => by rw [hp]; exact h.1) fun cdv A outer s0 H vs Q E hr h => ⟨_, hb cdv A outer s0 H E hr, body_end hN h⟩
end
/-! ### calls -/
inductive AE | e (m : Ev) | c (j : Nat)
def evAs : List AE → M (List Ar)
  | [] => pur []
  | .e m :: r => bnd (dat m) fun d => bnd (evAs r) fun as => pur (.d d :: as)
  | .c j :: r => fun ρ => match ρ[j]? with
    | some (.cel _ _) => bnd (evAs r) (fun as => pur (.c j :: as)) ρ
    | _ => none
def argSl (ρ : List Sl) : List Ar → Option (List Sl)
  | [] => some []
  | .d d :: r => (argSl ρ r).map (.dat d :: ·)
  | .c j :: r => match ρ[j]? with
    | some (.cel _ c) => (argSl ρ r).map (.cel .par c :: ·)
    | _ => none
def celsOf : List Ar → List Nat
  | [] => []
  | .d _ :: r => celsOf r
  | .c j :: r => j :: celsOf r
def newc : List Ar → List Sl → Nat → Option CC
  | .c j :: ar, .cel _ c :: ss, i => match newc ar ss i with | some c' => some c' | none => if i = j then some c else none
  | _ :: ar, _ :: ss, i => newc ar ss i
  | _, _, _ => none
def updc (ρ : List Sl) (j : Nat) (c : CC) : List Sl := match ρ[j]? with
  | some (.cel k _) => ρ.set j (.cel k c)
  | _ => ρ
def back (ρ : List Sl) : List Ar → List Sl → List Sl
  | .c j :: ar, .cel _ c :: ss => back (updc ρ j c) ar ss
  | _ :: ar, _ :: ss => back ρ ar ss
  | _, _ => ρ
def callG (n : Nat) (G : Fn) (ar : List Ar) : Ev := fun ρ => match argSl ρ ar with
  | none => none
  | some ss => if ar.length = n ∧ (celsOf ar).Nodup then match G ss with
      | none => none
      | some (r, ss') => some (r, back ρ ar ss')
    else none
def evCall (n : Nat) (G : Fn) (as : List AE) (ds : List D := []) : Ev := bnd (evAs as) fun ar => callG n G (ar ++ ds.map .d)
/-- a result that is no exception -/
def noEr {α : Type} (m : M α) : M α := fun ρ => match m ρ with | some (.ok a, ρ') => some (.ok a, ρ') | _ => none
theorem updc_get (ρ : List Sl) (j : Nat) (c : CC) (i : Nat) : (updc ρ j c)[i]? = (ρ[i]?).map fun s => match s with | .cel k c0 => .cel k (if i = j then c else c0) | s => s := by
  unfold updc
  split
  · rename_i k c0 h
    by_cases q : j = i
    · subst q
      rw [List.getElem?_set_self (List.getElem?_eq_some_iff.mp h).1, h]
      simp
    · rw [List.getElem?_set_ne q]
      cases e : ρ[i]? with
      | none => rfl
      | some s => cases s <;> simp [show ¬ i = j from fun z => q z.symm]
  · rename_i h
    cases e : ρ[i]? with
    | none => rfl
    | some s =>
      cases s <;> try rfl
      rename_i k c0
      by_cases q : i = j
      · subst q
        exact absurd e (h _ _)
      · simp [q]
theorem back_get : ∀ (ar : List Ar) (ss ρ : List Sl) (i : Nat), (back ρ ar ss)[i]? = (ρ[i]?).map fun s => match s with | .cel k c0 => .cel k ((newc ar ss i).getD c0) | s => s
  | [], ss, ρ, i => by
    cases e : ρ[i]? with
    | none => simp [back, e]
    | some s => cases s <;> simp [back, e, newc]
  | a :: ar, [], ρ, i => by
    cases e : ρ[i]? with
    | none => cases a <;> simp [back, e]
    | some s => cases a <;> cases s <;> simp [back, e, newc]
  | .d d :: ar, s :: ss, ρ, i => by
    rw [show back ρ (.d d :: ar) (s :: ss) = back ρ ar ss from rfl, back_get ar ss ρ i]
    rfl
  | .c j :: ar, s :: ss, ρ, i => by
    cases s with
    | cel k c =>
      rw [show back ρ (.c j :: ar) (.cel k c :: ss) = back (updc ρ j c) ar ss from rfl, back_get ar ss _ i, updc_get]
      cases e : ρ[i]? with
      | none => rfl
      | some s =>
        cases s <;> try rfl
        rename_i k0 c0
        simp only [Option.map_some, newc]
        cases newc ar ss i with
        | some c' => rfl
        | none => by_cases q : i = j <;> simp [q]
    | _ => rw [show back ρ (.c j :: ar) (_ :: ss) = back ρ ar ss from rfl, back_get ar ss ρ i]; rfl
theorem newc_some : ∀ {ar : List Ar} {ss : List Sl} {i : Nat} {c : CC}, newc ar ss i = some c → ∃ (q : Nat) (k : CK), ar[q]? = some (Ar.c i) ∧ ss[q]? = some (Sl.cel k c)
  | [], _, _, _, h => by simp [newc] at h
  | .d _ :: _, [], _, _, h => by simp [newc] at h
  | .c _ :: _, [], _, _, h => by simp [newc] at h
  | .d d :: ar, s :: ss, i, c, h => by
    have h : newc ar ss i = some c := h
    obtain ⟨q, k, h1, h2⟩ := newc_some h
    exact ⟨q + 1, k, by simpa using h1, by simpa using h2⟩
  | .c j :: ar, s :: ss, i, c, h => by
    have back' : newc ar ss i = some c → ∃ (q : Nat) (k : CK), (Ar.c j :: ar)[q]? = some (Ar.c i) ∧ (s :: ss)[q]? = some (Sl.cel k c) := fun h => by
      obtain ⟨q, k, h1, h2⟩ := newc_some h
      exact ⟨q + 1, k, by simpa using h1, by simpa using h2⟩
    cases s with
    | cel k c0 =>
      cases en : newc ar ss i with
      | some c' =>
        have h2 : (match newc ar ss i with | some c' => some c' | none => if i = j then some c0 else none) = some c := h
        rw [en] at h2
        exact back' (en.trans h2)
      | none =>
        have h2 : (match newc ar ss i with | some c' => some c' | none => if i = j then some c0 else none) = some c := h
        rw [en] at h2
        have h3 : (if i = j then some c0 else none) = some c := h2
        by_cases q : i = j
        · rw [if_pos q] at h3
          cases h3
          exact ⟨0, k, by rw [q]; rfl, rfl⟩
        · rw [if_neg q] at h3
          cases h3
    | _ => exact back' h
theorem newc_of : ∀ {ar : List Ar} {ss : List Sl} {i q : Nat} {k : CK} {c : CC}, ar[q]? = some (.c i) → ss[q]? = some (.cel k c) → ∃ c', newc ar ss i = some c'
  | [], _, _, _, _, _, h, _ =>
    by simp at h
  | _ :: _, [], _, _, _, _, _, h =>
    by simp at h
  | a :: ar, s :: ss, i, 0, k, c, h1, h2 => by
    simp only [List.getElem?_cons_zero, Option.some.injEq] at h1 h2
    subst h1 h2
    show ∃ c', (match newc ar ss i with | some c' => some c' | none => if i = i then some c else none) = some c'
    split
    · exact ⟨_, rfl⟩
    · exact ⟨c, by simp⟩
  | a :: ar, s :: ss, i, q + 1, k, c, h1, h2 => by
    obtain ⟨c', e⟩ := newc_of (ar := ar) (ss := ss) (i := i) (q := q) (by simpa using h1) (by simpa using h2)
    cases a with
    | d d => exact ⟨c', e⟩
    | c j =>
      cases s with
      | cel k0 c0 =>
        show ∃ c', (match newc ar ss i with | some c' => some c' | none => if i = j then some c0 else none) = some c'
        rw [e]
        exact ⟨c', rfl⟩
      | _ => exact ⟨c', e⟩
theorem argSl_len {ρ : List Sl} : ∀ {ar : List Ar} {ss : List Sl}, argSl ρ ar = some ss → ss.length = ar.length
  | [], _, h => by cases h; rfl
  | .d d :: r, _, h => by
    obtain ⟨s, h1, rfl⟩ := map_some h
    exact congrArg (· + 1) (argSl_len h1)
  | .c j :: r, _, h => by
    unfold argSl at h
    split at h
    · obtain ⟨s, h1, rfl⟩ := map_some h
      exact congrArg (· + 1) (argSl_len h1)
    · cases h
theorem argSl_get {ρ : List Sl} : ∀ {ar : List Ar} {ss : List Sl} {i : Nat}, argSl ρ ar = some ss → i < ar.length → (∃ d, ar[i]? = some (.d d) ∧ ss[i]? = some (.dat d)) ∨ ∃ j k c, ar[i]? = some (.c j) ∧ ρ[j]? = some (.cel k c) ∧ ss[i]? = some (.cel .par c)
  | [], _, _, _, l =>
    by simp at l
  | .d d :: r, _, i, h, l => by
    obtain ⟨s, h1, rfl⟩ := map_some h
    cases i with
    | zero => exact .inl ⟨d, rfl, rfl⟩
    | succ i => simpa using argSl_get (i := i) h1 (by simpa using l)
  | .c j :: r, _, i, h, l => by
    unfold argSl at h
    split at h
    · rename_i k c e
      obtain ⟨s, h1, rfl⟩ := map_some h
      cases i with
      | zero => exact .inr ⟨j, k, c, rfl, e, rfl⟩
      | succ i => simpa using argSl_get (i := i) h1 (by simpa using l)
    · cases h
theorem celsOf_inj : ∀ {ar : List Ar} {p q j : Nat}, (celsOf ar).Nodup → ar[p]? = some (.c j) → ar[q]? = some (.c j) → p = q := by
  intro ar
  have mem : ∀ {ar : List Ar} {q j : Nat}, ar[q]? = some (.c j) → j ∈ celsOf ar := by
    intro ar
    induction ar with
    | nil => intro q j h; simp at h
    | cons a ar ih =>
      intro q j h
      cases q with
      | zero => simp only [List.getElem?_cons_zero, Option.some.injEq] at h; subst h; exact List.mem_cons_self
      | succ q =>
        have z := ih (q := q) (by simpa using h)
        cases a with
        | d _ => exact z
        | c _ => exact List.mem_cons_of_mem _ z
  induction ar with
  | nil => intro p q j _ h; simp at h
  | cons a ar ih =>
    intro p q j nd h1 h2
    cases a with
    | d _ =>
      cases p with
      | zero => simp at h1
      | succ p =>
        cases q with
        | zero => simp at h2
        | succ q => rw [ih nd (p := p) (q := q) (by simpa using h1) (by simpa using h2)]
    | c j0 =>
      have nd : (j0 :: celsOf ar).Nodup := nd
      rw [List.nodup_cons] at nd
      cases p with
      | zero =>
        cases q with
        | zero => rfl
        | succ q =>
          simp only [List.getElem?_cons_zero, Option.some.injEq, Ar.c.injEq] at h1
          subst h1
          exact absurd (mem (q := q) (by simpa using h2)) nd.1
      | succ p =>
        cases q with
        | zero =>
          simp only [List.getElem?_cons_zero, Option.some.injEq, Ar.c.injEq] at h2
          subst h2
          exact absurd (mem (q := p) (by simpa using h1)) nd.1
        | succ q => rw [ih nd.2 (p := p) (q := q) (by simpa using h1) (by simpa using h2)]
theorem RAs.get {F : Hp} {σ : L2.St} : ∀ {vs : List V} {as : List Ar} {i : Nat} {a : Ar}, RAs K ct.ad F σ vs as → as[i]? = some a → ∃ v, vs[i]? = some v ∧ RA1 K ct.ad F σ v a
  | _, _, _, _, .nil, e =>
    by simp at e
  | _, _, 0, _, .cons h _, e => by simp at e; subst e; exact ⟨_, rfl, h⟩
  | _, _, i + 1, a, .cons _ t, e => by
    obtain ⟨v, h1, h2⟩ := RAs.get (i := i) (a := a) t (by simpa using e)
    exact ⟨v, by simpa using h1, h2⟩
theorem RAs.len {F : Hp} {σ : L2.St} : ∀ {vs : List V} {as : List Ar}, RAs K ct.ad F σ vs as → vs.length = as.length
  | _, _, .nil => rfl
  | _, _, .cons _ r => congrArg (· + 1) r.len
open Classical in
/-- the frame of a call -/
noncomputable def callFr (F H : Hp) (σ : L2.St) (ar : List Ar) : Fr :=
  let pa : Nat → Option Addr := fun i => match ar[i]? with
    | some (.c j) => (match σ[j]? with | some (some (.ref p)) => some p | _ => none)
    | _ => none
  ⟨fun b => if ∃ i, pa i = some b then none else H b, F, pa⟩
theorem callFr_pa {F H : Hp} {σ : L2.St} {ar : List Ar} {i p : Nat} (h : (callFr F H σ ar).pa i = some p) : ∃ j, ar[i]? = some (.c j) ∧ σ[j]? = some (some (.ref p)) := by
  have h : (match ar[i]? with | some (.c j) => (match σ[j]? with | some (some (.ref p)) => some p | _ => none) | _ => none) = some p := h
  split at h
  · rename_i j e
    split at h
    · rename_i q e2; cases h; exact ⟨j, e, e2⟩
    · cases h
  · cases h
theorem callFr_of {F H : Hp} {σ : L2.St} {ar : List Ar} {i j p : Nat} (h : ar[i]? = some (.c j)) (h2 : σ[j]? = some (some (.ref p))) : (callFr F H σ ar).pa i = some p := by
  show (match ar[i]? with | some (.c j) => (match σ[j]? with | some (some (.ref p)) => some p | _ => none) | _ => none) = some p
  rw [h]
  show (match σ[j]? with | some (some (.ref p)) => some p | _ => none) = some p
  rw [h2]
open Classical in
theorem callFr_P {F H : Hp} {σ : L2.St} {ar : List Ar} {b : Addr} (h : ∀ i, (callFr F H σ ar).pa i ≠ some b) : (callFr F H σ ar).P b = H b := by
  show (if ∃ i, (callFr F H σ ar).pa i = some b then none else H b) = H b
  exact if_neg (fun ⟨i, e⟩ => h i e)
open Classical in
theorem callFr_N {F H : Hp} {σ : L2.St} {ar : List Ar} {b : Addr} {i : Nat} (h : (callFr F H σ ar).pa i = some b) : (callFr F H σ ar).P b = none := by
  show (if ∃ i, (callFr F H σ ar).pa i = some b then none else H b) = none
  exact if_pos ⟨i, h⟩
/-- into a call -/
theorem Rel.enter {vs : List V} {ar : List Ar} {ss : List Sl} (S : Rel K ct fr F H σ ρ) (r : RAs K ct.ad F σ vs ar) (e : argSl ρ ar = some ss) (nd : (celsOf ar).Nodup) : Rel K (cx ct.ad) (callFr F H σ ar) F H (vs.map some) ss := by
  have ls := argSl_len e
  have lv := r.len
  have cel : ∀ {i : Nat} {k : CK} {c : CC}, ss[i]? = some (.cel k c) → k = .par ∧ ∃ j k0 p, ar[i]? = some (.c j) ∧ ρ[j]? = some (.cel k0 c) ∧ σ[j]? = some (some (.ref p)) ∧ vs[i]? = some (.ref p) ∧ F p = none ∧ CelR K ct.ad F H p c := fun {i k c} z => by
    have l := (List.getElem?_eq_some_iff.mp z).1
    rcases argSl_get (i := i) e (by omega) with ⟨d, h1, h2⟩ | ⟨j, k0, c0, h1, h2, h3⟩
    · rw [z] at h2; cases h2
    · rw [z] at h3
      cases h3
      obtain ⟨v, g1, g2⟩ := r.get h1
      obtain ⟨o, q1, p, q2, q3, q4, q5, q6, q7⟩ := S.slot j _ h2
      subst q2
      have g2 : σ[j]? = some (some v) := g2
      rw [q1] at g2
      cases g2
      exact ⟨rfl, j, k0, p, h1, h2, q1, g1, q3, q7⟩
  refine ⟨by rw [List.length_map]; omega, S.fh, fun i s z => ?_, fun i i' k c k' c' p z1 z2 z3 z4 => ?_, fun b o z => ?_, fun b _ z => z, fun i p z => ?_⟩
  · have l := (List.getElem?_eq_some_iff.mp z).1
    rcases argSl_get (i := i) e (by omega) with ⟨d, h1, h2⟩ | ⟨j, k0, c0, h1, h2, h3⟩
    · rw [z] at h2
      cases h2
      obtain ⟨v, g1, g2⟩ := r.get h1
      exact ⟨some v, by rw [List.getElem?_map, g1]; rfl, v, rfl, g2⟩
    · rw [z] at h3
      cases h3
      obtain ⟨_, j', k0', p, a1, a2, a3, a4, a5, a6⟩ := cel z
      have pa := callFr_of (F := F) (H := H) a1 a3
      exact ⟨some (.ref p), by rw [List.getElem?_map, a4]; rfl, p, rfl, a5, callFr_N pa, fun _ => pa, (fun w => by cases w), a6⟩
  ·
    obtain ⟨_, j, k0, p1, a1, a2, a3, a4, _⟩ := cel z1
    obtain ⟨_, j', k0', p2, b1, b2, b3, b4, _⟩ := cel z2
    rw [List.getElem?_map, a4] at z3
    rw [List.getElem?_map, b4] at z4
    cases z3
    cases z4
    have := S.dis j j' _ _ _ _ _ a2 b2 a3 b3
    subst this
    exact celsOf_inj nd a1 b1
  · by_cases w : ∃ i, (callFr F H σ ar).pa i = some b
    · obtain ⟨i, w⟩ := w; rw [callFr_N w] at z; cases z
    · rw [callFr_P (fun i q => w ⟨i, q⟩)] at z; exact z
  · obtain ⟨j, h1, h2⟩ := callFr_pa z
    have l := (List.getElem?_eq_some_iff.mp h1).1
    rcases argSl_get (i := i) e l with ⟨d, g1, g2⟩ | ⟨j', k0, c0, g1, g2, g3⟩
    · rw [h1] at g1; cases g1
    · exact ⟨.par, c0, g3, rfl⟩
/-- out of a call -/
theorem Rel.leave {vs : List V} {ar : List Ar} {ss ss' : List Sl} (S : Rel K ct fr F H σ ρ) (r : RAs K ct.ad F σ vs ar) (e : argSl ρ ar = some ss) (s : Same F F') (R : Rel K (cx ct.ad) (callFr F H σ ar) F' H' (vs.map some) ss') :
    Rel K ct fr F' H' σ (back ρ ar ss') ∧ ∀ p c, Fresh K ct.ad (callFr F H σ ar) F' H' (vs.map some) ss' p c → Fresh K ct.ad fr F' H' σ (back ρ ar ss') p c := by
  have lv := r.len
  -- what stands at a passed cell
  have passed : ∀ {q b : Nat}, (callFr F H σ ar).pa q = some b → ∃ j k c, ar[q]? = some (.c j) ∧ σ[j]? = some (some (.ref b)) ∧ ρ[j]? = some (.cel k c) := fun {q b} z => by
    obtain ⟨j, h1, h2⟩ := callFr_pa z
    rcases argSl_get (i := q) e (List.getElem?_eq_some_iff.mp h1).1 with ⟨d, g1, g2⟩ | ⟨j', k0, c0, g1, g2, g3⟩
    · rw [h1] at g1; cases g1
    · rw [h1] at g1; cases g1; exact ⟨j, k0, c0, h1, h2, g2⟩
  have notP : ∀ {b : Addr} {o : HO}, fr.P b = some o → ∀ q, (callFr F H σ ar).pa q ≠ some b := fun {b o} z q w => by
    obtain ⟨j, k, c, h1, h2, h3⟩ := passed w
    obtain ⟨o', q1, p, q2, q3, q4, q5, q6, q7⟩ := S.slot j _ h3
    rw [q1] at h2
    cases q2
    cases h2
    rw [q4] at z
    cases z
  have bk : ∀ {i : Nat} {k : CK} {c : CC}, (back ρ ar ss')[i]? = some (.cel k c) → ∃ c0, ρ[i]? = some (.cel k c0) := fun {i k c} z => by
    rw [back_get] at z
    cases q : ρ[i]? with
    | none => rw [q] at z; cases z
    | some x =>
      rw [q] at z
      cases x <;> simp only [Option.map_some, Option.some.injEq] at z <;> try cases z
      exact ⟨_, rfl⟩
  have lenb : (back ρ ar ss').length = ρ.length := by
    have h1 : ∀ i, (back ρ ar ss')[i]? = none ↔ ρ[i]? = none := fun i => by rw [back_get]; cases ρ[i]? <;> simp
    have a := (h1 ρ.length).mpr (by simp)
    have b := (h1 (back ρ ar ss').length).mp (by simp)
    rw [List.getElem?_eq_none_iff] at a b
    omega
  refine ⟨⟨by rw [lenb]; exact S.len, R.fh, fun i s0 z => ?_, fun i j k c k' c' p z1 z2 z3 z4 => ?_, fun b o z => ?_, fun b hb h0 => ?_, fun i p z => ?_⟩, fun p c f => ?_⟩
  · rw [back_get] at z
    cases q : ρ[i]? with
    | none => rw [q] at z; cases z
    | some x =>
      rw [q] at z
      obtain ⟨o, g1, g2⟩ := S.slot i x q
      refine ⟨o, g1, ?_⟩
      cases x with
      | un => cases z; trivial
      | dat d => cases z; obtain ⟨v, a1, a2⟩ := g2; exact ⟨v, a1, a2.mono s⟩
      | exn c pl => cases z; exact ⟨g2.1, g2.2.1, g2.2.2.mono s⟩
      | cel k c0 =>
        simp only [Option.map_some, Option.some.injEq] at z
        subst z
        obtain ⟨p, a1, a2, a3, a4, a5, a6⟩ := g2
        subst a1
        cases hn : newc ar ss' i with
        | some c' =>
          obtain ⟨w, k1, h1, h2⟩ := newc_some hn
          have pa := callFr_of (F := F) (H := H) h1 g1
          obtain ⟨o1, b1, p1, b2, b3, b4, b5, b6, b7⟩ := R.slot w _ h2
          obtain ⟨k2, c2, d1, d2⟩ := R.pcs w p pa
          rw [h2] at d1
          cases d1
          have := b5 d2
          rw [pa] at this
          cases this
          exact ⟨_, rfl, b3, a3, a4, a5, b7⟩
        | none =>
          have np : ∀ w, (callFr F H σ ar).pa w ≠ some p := fun w y => by
            obtain ⟨j, k2, c2, h1, h2, h3⟩ := passed y
            have := S.dis i j _ _ _ _ p q h3 g1 h2
            subst this
            obtain ⟨k3, c3, d1, d2⟩ := R.pcs w p y
            obtain ⟨c4, d3⟩ := newc_of h1 d1
            rw [hn] at d3
            cases d3
          obtain ⟨u, hu⟩ := a6.at
          have hP : (callFr F H σ ar).P p = some u := by rw [callFr_P np, hu]
          have h' := R.keep p u hP
          have f' : F' p = none := R.fro p (by rw [hP]; simp) a2
          exact ⟨p, rfl, f', a3, a4, a5, a6.keep s (by rw [h', hu])⟩
  · obtain ⟨_, y1⟩ := bk z1
    obtain ⟨_, y2⟩ := bk z2
    exact S.dis i j _ _ _ _ p y1 y2 z3 z4
  · exact R.keep b o (by rw [callFr_P (notP z)]; exact S.keep b o z)
  · have fb := S.fro b hb h0
    cases w : fr.P b with
    | none => exact absurd w hb
    | some o => exact R.fro b (by rw [callFr_P (notP w), S.keep b o w]; simp) fb
  · obtain ⟨k, c, h1, h2⟩ := S.pcs i p z
    refine ⟨k, (newc ar ss' i).getD c, ?_, h2⟩
    rw [back_get, h1]; rfl
  · obtain ⟨f1, f2, f3, f4, f5⟩ := f
    have hp : H p = none := by rw [← callFr_P f3]; exact f2
    refine ⟨f1, S.np hp, fun j w => ?_, f4, fun i k c' z1 z2 => ?_⟩
    · obtain ⟨k, c1, h1, h2⟩ := S.pcs j p w
      obtain ⟨o, g1, p', g2, g3, g4, g5, g6, g7⟩ := S.slot j _ h1
      have := g5 h2
      rw [w] at this
      cases this
      obtain ⟨u, hu⟩ := g7.at
      rw [hp] at hu
      cases hu
    · obtain ⟨c0, y⟩ := bk z1
      obtain ⟨p', o', y1, y2⟩ := S.cell_at y
      rw [y1] at z2
      cases z2
      rw [hp] at y2
      cases y2
/-- a callee's promise at its arguments -/
theorem Tat.call {n : Nat} {G : Fn} {vs : List V} {ar : List Ar} {Q : VK} {E : XK} (h : Tat K ct (RV K ct.ad) W fr F ρ (callG n G ar) σ Q) (S : Rel K ct fr F H σ ρ) (r : RAs K ct.ad F σ vs ar) (hE : ∀ cls d H', W cls d σ H' → E cls d H') : spP K ct.ad n G vs H Q E := by
  obtain ⟨x, ρ', e, q⟩ := h
  unfold callG at e
  split at e
  · cases e
  · rename_i ss es
    split at e
    · rename_i nd0
      obtain ⟨hn, nd⟩ := nd0
      split at e
      · cases e
      · rename_i y ss' eg
        cases e
        refine ⟨by rw [r.len]; exact hn, callFr F H σ ar, F, ss, S.enter r es nd, fun b hb => callFr_P hb, rfl, x, ss', eg, ?_⟩
        cases x with
        | er c pl =>
          intro d F' H' s' R pr
          exact hE _ _ _ (q d F' H' s' (S.leave r es s' R).1 pr)
        | ok rv =>
          intro v F' H' s' R rr
          obtain ⟨z1, z2⟩ := S.leave r es s' R
          refine q v F' H' s' z1 ?_
          cases rv with
          | d d => exact rr
          | c c => obtain ⟨p, ev, fp⟩ := rr; exact ⟨p, ev, z2 p c fp⟩
    · cases e
end PL
end
section
namespace OW
open PySem PySem.Spec PyProof.Rows L2
/-- what the operators of the class at C ask -/
def rOwn2 (C : Addr) (sp : Sp) (E : XK) : R2 := fun x y H Q => ∃ a dx fs b dy gs, x = .ref a ∧ y = .ref b ∧ H a = some (.ins C dx fs) ∧ H b = some (.ins C dy gs) ∧ sp [x, y] H Q E
def rOwn1 (C : Addr) (sp : Sp) (E : XK) : V → Hp → VK → Prop := fun x H Q => ∃ a dx fs, x = .ref a ∧ H a = some (.ins C dx fs) ∧ sp [x] H Q E
section
variable {X : Cx} {CX : CXT} {k : Nat} {C f : Addr} {fd : FuncData} {ps : List Str} {sp : Sp} {E : XK}
theorem inst {pins : List (Addr × Obj)} {σ : L2.St} {H : Hp} {s : Shared} {a dx : Addr} {fs : List (Str × V)} (I : Inv X pins σ H s) (e : H a = some (.ins C dx fs)) : ∃ ox od, PySem.W.InstAt s.heap a ox C od := by
  exact let ⟨_, O, _⟩ := ins_get I.hok e; let ⟨od, J, _⟩ := O.look; ⟨_, od, J⟩
theorem op_cmp {op : CmpOp} {m : Str} (hm : m = (PySem.cmpInfo op).2.1) (hop : ∀ a b, compareOp op a b = richCompare op a b) (M : Meth X.K C m f) (hn : PySem.W.notFirst X.K C (.ref C) = true) (F : FnOk X.prog X.w X.K X.mg X.base CX k f fd ps sp) (hr : Room k X.A) (hb : Binds X.K fd ps []) (hx : Passes CX X E) :
    OpR X (compareOp op) (rOwn2 C sp E) := by
  intro pn s σ H x y v u Q I rx ry ⟨a, dx, fs, b, dy, gs, ex, ey, ha, hb', q⟩
  subst ex ey
  cases rx; cases ry
  obtain ⟨ox, od, J⟩ := inst I ha
  obtain ⟨oy, od', J'⟩ := inst I hb'
  obtain ⟨m', hF⟩ := I.fr
  subst hm
  rw [hop]
  refine PySem.W.cmp_K (op := op) (tb := .ref C) hr.units0 hF I.ok.mod.kin J J'.type hn M.at_ M.fn ?_
  refine wpAny_mono (run_fn (us := [.ref a, .ref b]) (vs := [.ref a, .ref b]) F hr hb .nil hx I (.cons rfl (.cons rfl .nil)) q) (fun w s' z => ?_) fun _ _ x => x
  exact let ⟨z1, H1, J1, r1, q1⟩ := z; SlX.cmpback r1 ⟨z1, H1, J1, r1, q1⟩
theorem un_neg {m : Str} (hm : m = "__neg__") (M : Meth X.K C m f) (F : FnOk X.prog X.w X.K X.mg X.base CX k f fd ps sp) (hr : Room k X.A) (hb : Binds X.K fd ps []) (hx : Passes CX X E) : UnR X (unaryOp .USub) (rOwn1 C sp E) := by
  intro pn s σ H x v Q I rx ⟨a, dx, fs, ex, ha, q⟩
  subst ex
  cases rx
  obtain ⟨ox, od, J⟩ := inst I ha
  obtain ⟨m', hF⟩ := I.fr
  subst hm
  refine PySem.W.ksp_neg hF I.ok.mod.kin J M.at_ M.fn ?_
  exact run_fn (us := [.ref a]) (vs := [.ref a]) F hr hb .nil hx I (.cons rfl .nil) q
/-- x in o, o of the class at C: its __contains__ gives a bool -/
def rInOwn (C : Addr) (sp : Sp) (E : XK) (neg : Bool) : R2 := fun y x H Q => ∃ a dx fs, x = .ref a ∧ H a = some (.ins C dx fs) ∧ sp [x, y] H (fun z H' => ∃ b, z = .bl b ∧ Q (.bl (if neg then !b else b)) H') E
theorem op_in {m : Str} (hm : m = "__contains__") (M : Meth X.K C m f) (F : FnOk X.prog X.w X.K X.mg X.base CX k f fd ps sp) (hr : Room k X.A) (hb : Binds X.K fd ps []) (hx : Passes CX X E) : OpR X (compareOp .In) (rInOwn C sp E false) := by
  intro pn s σ H y x v u Q I ry rx ⟨a, dx, fs, ex, ha, q⟩
  subst ex
  cases rx
  obtain ⟨ox, od, J⟩ := inst I ha
  obtain ⟨m', hF⟩ := I.fr
  subst hm
  refine PySem.W.in_K hF I.ok.mod.kin J M.at_ M.fn ?_
  refine wpAny_mono (run_fn (us := [.ref a, v]) (vs := [.ref a, y]) F hr hb .nil hx I (.cons rfl (.cons ry .nil)) q) (fun w s' z => ?_) fun _ _ x => x
  obtain ⟨z', H', I', rz, b, eb, qz⟩ := z
  subst eb
  cases (show w = Value.bool b from rz)
  exact wpAny_truthy_bool ⟨.bl b, H', I', rfl, qz⟩
end
end OW
namespace OW
open PySem PySem.Spec PyProof.Rows L2
/-- // by any divisor but 0 below 2 ^ 9000 -/
def CDivA (_ j : Int) : Prop := j ≠ 0 ∧ j.natAbs.log2 < 9000
def wInt1 : List V → Hp → VK → Prop := fun xs H Q => (∃ i, xs = [.int i] ∧ Q (.int i) H) ∨ ∃ k, xs = [.bl k] ∧ Q (.int (if k = true then 1 else 0)) H
def wAbs : List V → Hp → VK → Prop := fun xs H Q => ∃ i, xs = [.int i] ∧ Q (.int (if i < 0 then -i else i)) H
def wMax2 : List V → Hp → VK → Prop := fun xs H Q => ∃ i j, xs = [.int i, .int j] ∧ Q (.int (if j > i then j else i)) H
def wMin2 : List V → Hp → VK → Prop := fun xs H Q => ∃ i j, xs = [.int i, .int j] ∧ Q (.int (if j < i then j else i)) H
def wStrI : List V → Hp → VK → Prop := fun xs H Q => ∃ i, xs = [.int i] ∧ i.natAbs.log2 < 1920 ∧ Q (.str (toString i)) H
def wLen (K : PySem.W.Frag) : List V → Hp → VK → Prop := fun xs H Q => ∃ p ys, xs = [.ref p] ∧ (SqL K H p ys ∨ SqT K H p ys) ∧ Q (.int ys.length) H
def wLenS : List V → Hp → VK → Prop := fun xs H Q => ∃ z, xs = [.str z] ∧ z.length ≤ sizeLine ∧ Q (.int z.length) H
def wAddS : R2 := fun x y H Q => ∃ i j, x = .str i ∧ y = .str j ∧ i.length + j.length ≤ sizeLine ∧ Q (.str (i ++ j)) H
/-- isinstance of the exception that a suite holds (its class has no own __init__) -/
def rIsEE (K : PySem.W.Frag) (a : Addr) (cls : Value) (d : Option Addr) : List V → Hp → VK → Prop := fun xs H Q => ∃ (D : Addr) (c : V) (cv : Value) (b : Bool), xs = [.ref a, c] ∧ cls = .ref D ∧ (d = none ∨ ∃ dx fs, d = some dx ∧ H dx = some (.xd fs)) ∧ ExcC K D ∧ (∀ u, RelV c u → u = cv) ∧ PySem.W.kitOne K (.ref D) cv = some b ∧ Q (.bl b) H
section
variable {X : Cx}
theorem c_int1 : CallR X (.type "int") wInt1 := call_int1
theorem c_len : CallR X (.builtin "len") (wLen X.K) := call_len_seq
theorem c_lenS : CallR X (.builtin "len") wLenS := call_len_str
theorem c_isEE {a : Addr} {oe : Obj} {cls : Value} {d : Option Addr} {pn : List (Addr × Obj)} (hz : Zc cls d oe) (hf : ∃ vs, oe.data = .fields vs) : CallR (X.suite a ((a, oe) :: pn)) (.builtin "isinstance") (rIsEE X.K a cls d) := by
  intro pn s σ H xs us Q I r ⟨D, c, cv, b, ex, ec, ed, hE, hc, e, q⟩
  subst ex ec
  rcases ed with ed | ⟨dx, fs, ed, hx⟩
  · subst ed
    exact call_isE hE hz hf pn s σ H _ us Q I r ⟨c, cv, b, rfl, hc, e, q⟩
  · subst ed
    cases r with
    | cons rx rr =>
      cases rr with
      | cons rt rr =>
        cases rr
        cases rx
        have ecv := hc _ rt
        subst ecv
        (obtain ⟨hget, _⟩ := I.pin (a, oe) (List.mem_append.mpr (.inl List.mem_cons_self)))
        obtain ⟨vs, hv⟩ := hf
        have hxo : ObjOk X.prog X.w H s.heap dx (.xd fs) := I.hok dx _ hx
        obtain ⟨mA, ⟨od, _, _, hod, _⟩, _⟩ := hxo
        have J : PySem.W.InstAt s.heap a oe D (some od) := by
          obtain ⟨oc, odd, oda, osl⟩ := oe
          obtain ⟨h1, h2⟩ := hz
          dsimp only at h1 h2 hv
          subst h1 h2 hv
          exact ⟨hget, rfl, rfl, hod⟩
        have hcl : (PySem.W.clsIn X.K D).isSome = true := by
          obtain ⟨cd, hcd, _⟩ := PySem.W.any_some hE.hd
          rw [hcd]
          rfl
        exact PySem.W.kia_one (PySem.W.kitx_exc hcl hE.hg hE.hk hE.hs hE.ha hE.hn hE.ht hE.hm) I.kIn J e (fun z => nomatch z) fun tk => ⟨.bl b, H, I.kept (t' := tk) fun _ _ z => z, rfl, q⟩
end
/-- C(e, ..) in the body of a try: what its __init__ lets out meets the wish at the slots as they stand -/
def tMakeS (C : Addr) (sp : Sp) (dvs : List V) (E : L2.St → XK) (t : TA) : TE := fun σ H Q =>
  t σ H fun vs G => ∀ o d, G o = none → G d = none → d ≠ o →
    sp (.ref o :: (vs ++ dvs)) (upd (upd G d (.own o)) o (.ins C d [])) (fun v G' => v = .non ∧ Q (.ref o) G') (E σ)
section
variable {X : Cx} {CX : CXT} {k : Nat} {C f : Addr} {fd : FuncData} {ps : List Str} {sp : Sp} {ds : List Value} {dvs : List V}
/-- the new object and its dict are the heap's next two places -/
theorem run_makeS {pn : List (Addr × Obj)} {σ : L2.St} {G : Hp} {s : Shared} {Q : VK} {us : List Value} {vs : List V} {E : XK}
    (M : Mk X.K C f) (F : FnOk X.prog X.w X.K X.mg X.base CX k f fd ps sp) (room : Room (k + 1) X.A) (bd : Binds X.K fd ps ds) (vd : Vals dvs ds) (px : PassesAt CX X σ E) (I : Inv X pn σ G s) (rv : Vals vs us)
    (want : ∀ o d, G o = none → G d = none → d ≠ o → sp (.ref o :: (vs ++ dvs)) (upd (upd G d (.own o)) o (.ins C d [])) (fun v G' => v = .non ∧ Q (.ref o) G') E) :
    wpAny (model X.prog X.w) X.A (call (.ref C) us) (EP X pn σ Q) X.xe s := by
  let d := s.heap.objs.size
  let o := d + 1
  have fresh : ∀ a, d ≤ a → G a = none := fun a h => I.hok.fresh h
  have w0 := want o d (fresh o (Nat.le_succ d)) (fresh d (Nat.le_refl d)) (Nat.ne_of_lt (Nat.lt_succ_self d))
  have I1 := I.made (C := C)
  have rall : Vals (V.ref o :: (vs ++ dvs)) (Value.ref o :: (us ++ ds)) := .cons rfl (rv.append vd)
  have len : (Value.ref o :: us ++ ds).length = ps.length := rall.length.symm.trans (F.len _ _ _ _ w0)
  have body := F.run _ X.stack _ _ ⟨Value.ref o :: us, []⟩ (Value.ref o :: (us ++ ds)) _ _ E (room.make C us []) (I1.env0.make C us []) (bd _ (Value.ref o :: us) I1.kIn len) rall w0
  refine wpAny_call (make_map (f := f) I.kIn M.makes M.init (beq_iff_eq.mp M.fn) (codeAny_mono body ?_))
  rintro (er | fl) s1 h1
  · exact px pn _ _ er s1 I1 h1
  · cases fl with
    | ret u => exact let ⟨_, G1, J, ru, ev, q⟩ := I1.after h1; ⟨by subst ev; exact ru, .ref o, G1, J, rfl, q⟩
    | _ => exact h1.elim
theorem pe_makeS {E : L2.St → XK} {x : Str} {p pos : Pos} {e : Expr} {es : List Expr} {t : TA} (M : Mk X.K C f) (F : FnOk X.prog X.w X.K X.mg X.base CX k f fd ps sp) (room : Room (k + 1) X.A) (hg : Gl X x) (hm : X.mg x = some (.ref C)) (bd : Binds X.K fd ps ds) (vd : Vals dvs ds)
    (px : ∀ σ, PassesAt CX X σ (E σ)) (args : PA X (e :: es) t)
    (nd : (x == ("__debug__" : Str)) = false := by decide) (h1 : starEach (e :: es) X.env = (false, eval e X.env) :: starEach es X.env := by rfl) (h2 : (backTo pos (starEach es X.env)).any (·.1) = false := by rfl) :
    PE X (.Call (.Name x p) (e :: es) [] pos) (tMakeS C sp dvs E t) where
  run pn s σ G Q I h := by
    refine wpAny_Call_Name_kw (ld_glob I hg hm ?_ nd)
    refine PySem.W.callWith_K (h₀ := X.base) I.ok.mod.kin M.kp ?_ h1 h2
    refine thn (args.run pos pn s σ G _ I h) ?_
    rintro us s1 ⟨_, _, J, rv, q⟩
    exact ⟨J.kIn, run_makeS M F room bd vd (px σ) J rv q⟩
end
end OW
namespace OW
open PySem PySem.Spec PyProof.Rows L2
def wFmt : V → Hp → VK → Prop := fun x H Q => (∃ y : Str, x = .str y ∧ y.length ≤ sizeLine ∧ Q (.str y) H) ∨ ∃ i : Int, x = .int i ∧ i.natAbs.log2 < 1920 ∧ Q (.str (toString i)) H
end OW
namespace OW
open PySem PySem.Spec PyProof.Rows L2
section
variable {P : Program} {w : World} {K : PySem.W.Frag} {mg : Str → Option Value} {base : Heap} {x qual : Str} {st : Stmt} {dvs : List V} {kws : List (Str × V)} {f : Addr} {fd : FuncData} {N ps : List Str} {k : Nat} {sp : Sp}
/-- what is to be shown of a def's body: W its wish for exceptions -/
def BodyOk (P : Program) (w : World) (K : PySem.W.Frag) (mg : Str → Option Value) (base : Heap) (N : List Str) (qual : Str) (st : Stmt) (f : Addr) (k : Nat) (sp : Sp) (CX : CXT) (no : Bool) : Prop :=
  ∀ (cdv : Value) (A : Around) (outer : List Env) (s : Shared) (H : Hp) (vs : List V) (Q : VK) (E : XK),
    Room k (A.deeper (envOfC qual (defScope st) s.heap.objs.size f cdv)) → sp vs H Q E → ∃ t,
      (if no = true then PSs (cxOf CX P w K mg base N qual (defScope st) f cdv A outer s H E).nox (defBody st) t else PSs (cxOf CX P w K mg base N qual (defScope st) f cdv A outer s H E) (defBody st) t) ∧
      t { nx := fun _ H' => Q .non H', rt := Q } (start N vs) H
end
end OW
namespace OW
open PySem PySem.Spec PyProof.Rows L2
/-! an instance that is walked: its __iter__ gives iter(its tuple) -/
/-- the tuple's iterator at its start -/
def TIt (t it : Addr) : HO := .ext fun h => h.IsTupleIter it t 0
/-- a def whose promise knows how many places the heap has when it is entered -/
structure FnS (P : Program) (w : World) (K : PySem.W.Frag) (mg : Str → Option Value) (base : Heap) (k : Nat) (f : Addr) (fd : FuncData) (ps : List Str) (sp : Nat → Sp) : Prop where
  len : ∀ n vs H Q E, sp n vs H Q E → vs.length = ps.length
  run : ∀ (A : Around) (outer : List Env) (s : Shared) (H : Hp) (args : Args) (us : List Value) (vs : List V) (Q : VK) (E : XK), Room k A → Env0 P w K mg base A outer s H → BindsTo s fd args (ps.zip us) → Vals vs us →
    sp s.heap.objs.size vs H Q E → codeAny (model P w) A (.call (.ref f) args) (CR CX0 outer P w H s Q E) s
def wIterT (K : PySem.W.Frag) (n : Nat) : List V → Hp → VK → Prop := fun xs H Q => ∃ (l : Addr) (zs : List V), xs = [.ref l] ∧ SqT K H l zs ∧ ∀ it, H it = none → n ≤ it → Q (.ref it) (upd H it (TIt l it))
def iOwn (K : PySem.W.Frag) (C : Addr) (sp : Nat → Sp) (ta : TE) : TI := fun σ H R => ta σ H fun x G => ∃ a dx fs, x = .ref a ∧ G a = some (.ins C dx fs) ∧
  ∀ n, sp n [.ref a] G (fun v G2 => ∃ it t, v = .ref it ∧ n ≤ it ∧ G it = none ∧ G2 = upd G it (TIt t it) ∧ R (Itt K t) G) E0
section
variable {X : Cx} {k : Nat} {C f : Addr} {fd : FuncData} {ps : List Str} {sp : Nat → Sp} {e tg : Expr} {ta : TE}
end
/-! max(xs, default=d), sorted(d, reverse=True), min and max of three -/
def maxL (d : Int) : List Int → Int
  | [] => d
  | n :: ns => ns.foldl max n
section
variable {X : Cx}
def wMaxD (K : PySem.W.Frag) : List V → List V → Hp → VK → Prop := fun vs zs H Q => ∃ (a : Addr) (ns : List Int) (d : Int), vs = [.ref a] ∧ zs = [.int d] ∧ SqL K H a (ns.map V.int) ∧ Q (.int (maxL d ns)) H
def wMin3 : List V → Hp → VK → Prop := fun xs H Q => ∃ i j k : Int, xs = [.int i, .int j, .int k] ∧ Q (.int (min i (min j k))) H
def wMax3 : List V → Hp → VK → Prop := fun xs H Q => ∃ i j k : Int, xs = [.int i, .int j, .int k] ∧ Q (.int (max i (max j k))) H
def wSortDR : List V → List V → Hp → VK → Prop := fun vs zs H Q => ∃ (a : Addr) (kvs : List (Key × V)) (ks : List Int), vs = [.ref a] ∧ zs = [.bl true] ∧ Rd H a (.dK kvs) ∧ kvs.map (·.1) = ks.map Sum.inl ∧
  ∀ (ys : List Int) (p : Addr), ys.Perm ks → ys.Pairwise (· ≥ ·) → H p = none → Q (.ref p) (upd H p (.lst (ys.map V.int)))
end
end OW
namespace OW
open PySem PySem.Spec PyProof.Rows L2
section
variable {X : Cx}
def wTupL (K : PySem.W.Frag) : List V → Hp → VK → Prop := fun xs H Q => ∃ (p : Addr) (ys : List V), xs = [.ref p] ∧ SqL K H p ys ∧ ∀ l, H l = none → Q (.ref l) (upd H l (.tup ys))
def wLstL (K : PySem.W.Frag) : List V → Hp → VK → Prop := fun xs H Q => ∃ (p : Addr) (ys : List V), xs = [.ref p] ∧ SqL K H p ys ∧ ∀ l, H l = none → Q (.ref l) (upd H l (.lst ys))
def wLstT (K : PySem.W.Frag) : List V → Hp → VK → Prop := fun xs H Q => ∃ (p : Addr) (ys : List V), xs = [.ref p] ∧ SqT K H p ys ∧ ∀ l, H l = none → Q (.ref l) (upd H l (.lst ys))
end
end OW
namespace OW
open PySem PySem.Spec PyProof.Rows L2
def wIns : V → List V → Hp → VK → Prop := fun x vs H Q => ∃ (l : Addr) (xs : List V) (i : Int) (y : V), x = .ref l ∧ vs = [.int i, y] ∧ H l = some (.lst xs) ∧ xs.length < sizeLine ∧ 0 ≤ i ∧ i < 2 ^ 63 ∧ Q .non (upd H l (.lst (xs.take i.toNat ++ [y] ++ xs.drop i.toNat)))
end OW
namespace OW
open PySem PySem.Spec PyProof.Rows L2
/-- a op b op' c op'' d as a test -/
def tChain3 (r r' r'' : R2) (ta tb tc td : TE) : TT := fun σ H QB => ta σ H fun x G => tb σ G fun y G1 => r x y G1 fun z G2 => ∃ k, z = .bl k ∧
  (if k = true then tc σ G2 fun u G3 => r' y u G3 fun z2 G4 => ∃ k2, z2 = .bl k2 ∧
    (if k2 = true then td σ G4 fun v G5 => r'' u v G5 fun z3 G6 => ∃ k3, z3 = .bl k3 ∧ QB k3 G6 else QB false G4) else QB false G2)
section
variable {X : Cx} {a b c d : Expr} {ta tb tc td : TE} {pos : Pos} {op op' op'' : CmpOp} {r r' r'' : R2}
theorem pt_chain3 (h1 : OpR X (compareOp op) r) (h2 : OpR X (compareOp op') r') (h3 : OpR X (compareOp op'') r'') (ha : PE X a ta) (hb : PE X b tb) (hc : PE X c tc) (hd : PE X d td)
    (hm : lastMarks [op, op', op''] [b, c, d] = false := by with_unfolding_all rfl) : PT X (.Compare a [op, op', op''] [b, c, d] pos) (tChain3 r r' r'' ta tb tc td) := by
  refine ⟨fun pn s σ H Q I h => ?_⟩
  refine isTrue_chain (thn (ha.run pn s σ H _ I h) fun v s1 ⟨x, G1, I1, r1, q1⟩ => test_link (thn (hb.run pn s1 σ G1 _ I1 q1) fun u s2 ⟨y, G2, I2, r2, q2⟩ =>
    thn (h1 pn s2 σ G2 x y v u _ I2 r1 r2 q2) fun e1 s3 ⟨z, G3, I3, r3, k, e, q3⟩ => ?_)) hm
  subst e
  cases r3
  refine wpAny_truthy_bool ?_
  cases k with
  | false => exact ite_ff ⟨G3, I3, q3⟩
  | true =>
    refine ite_tt (test_link (thn (hc.run pn s3 σ G3 _ I3 q3) fun v2 s4 ⟨y2, G4, I4, r4, q4⟩ => thn (h2 pn s4 σ G4 y y2 u v2 _ I4 r2 r4 q4) fun e2 s5 ⟨z2, G5, I5, r5, k2, e3, q5⟩ => ?_))
    subst e3
    cases r5
    refine wpAny_truthy_bool ?_
    cases k2 with
    | false => exact ite_ff ⟨G5, I5, q5⟩
    | true =>
      refine ite_tt (test_last (thn (hd.run pn s5 σ G5 _ I5 q5) fun v3 s6 ⟨y3, G6, I6, r6, q6⟩ => thn (h3 pn s6 σ G6 y2 y3 v2 v3 _ I6 r4 r6 q6) fun e4 s7 ⟨z3, G7, I7, r7, k3, e5, q7⟩ => ?_))
      subst e5
      cases r7
      exact wpAny_truthy_bool ⟨G7, I7, q7⟩
end
end OW
namespace OW
open PySem PySem.Spec PyProof.Rows L2
def wIsN : R2 := fun x y H Q => y = .non ∧ Q (.bl (decide (x = .non))) H
def wNotN : R2 := fun x y H Q => y = .non ∧ Q (.bl (!decide (x = .non))) H
end OW
namespace OW
open PySem PySem.Spec PyProof.Rows L2
end OW
namespace OW
open PySem PySem.Spec PyProof.Rows L2
/-- C(e, ..), C a local name -/
def tMakeL (i : Nat) (C : Addr) (sp : Sp) (E : XK) (t : TA) : TE := fun σ H Q => σ[i]? = some (some (.ref C)) ∧ tMake C sp [] E t σ H Q
section
variable {X : Cx} {CX : CXT} {k : Nat} {C f : Addr} {fd : FuncData} {ps : List Str} {sp : Sp} {E : XK} {K : PySem.W.Frag}
end
end OW
end
section
namespace PL
open PySem PySem.Spec PyProof.Rows L2
variable {K : PySem.W.Frag} {ad : Cl → Addr} {ct : CT}
variable {fr : Fr} {F F' H H' : Hp} {σ : L2.St} {ρ : List Sl} {W : WX}
/-! ### arguments -/
section
variable {X : Cx}
theorem pq_n : PA X [] (TAr K ct W (evAs [])) := pa_nil.imp fun σ H Q h => by
  obtain ⟨fr, F, ρ, S, h⟩ := h
  exact Tat.ok (a := ([] : List Ar)) h [] F H (Same.refl _) S RAs.nil
theorem RAs.mono {F F' : Hp} {σ : L2.St} (s : Same F F') : ∀ {vs : List V} {as : List Ar}, RAs K ct.ad F σ vs as → RAs K ct.ad F' σ vs as
  | _, _, .nil => .nil
  | _, .d _ :: _, .cons h r => .cons (Rp.mono s h) (RAs.mono s r)
  | _, .c _ :: _, .cons h r => .cons h (RAs.mono s r)
theorem pq_c {e : Expr} {es : List Expr} {m : Ev} {r : List AE} (he : PE X e (TP K ct W m)) (hr : PA X es (TAr K ct W (evAs r)))
    (hs : starEach (e :: es) X.env = (false, eval e X.env) :: starEach es X.env := by rfl) : PA X (e :: es) (TAr K ct W (evAs (.e m :: r))) := (pa_cons he hr hs).imp fun σ H Q h => by
  obtain ⟨fr, F, ρ, S, h⟩ := h
  refine Tat.dat h S fun F1 H1 ρ1 v d s1 S1 r1 h => ?_
  refine Tat.bnd h S1 fun F2 H2 ρ2 vs ds s2 S2 r2 h => ?_
  exact Tat.ok (a := Ar.d d :: ds) h _ F2 H2 (Same.refl _) S2 (RAs.cons (r1.mono s2) r2)
theorem pq_k {e : Expr} {es : List Expr} (j : Nat) {r : List AE} (he : PE X e (tVar j)) (hr : PA X es (TAr K ct W (evAs r)))
    (hs : starEach (e :: es) X.env = (false, eval e X.env) :: starEach es X.env := by rfl) : PA X (e :: es) (TAr K ct W (evAs (.c j :: r))) := (pa_cons he hr hs).imp fun σ H Q h => by
  obtain ⟨fr, F, ρ, S, r0, ρ0, e0, q0⟩ := h
  have e1 : (match ρ[j]? with | some (.cel _ _) => bnd (evAs r) (fun as => pur (.c j :: as)) ρ | _ => none) = some (r0, ρ0) := e0
  split at e1
  · rename_i k c hc
    obtain ⟨p, o, h1, h2⟩ := S.cell_at hc
    refine ⟨_, h1, ?_⟩
    have h : Tat K ct (RA K ct.ad) W fr F ρ (bnd (evAs r) (fun as => pur (.c j :: as))) σ Q := ⟨r0, ρ0, e1, q0⟩
    refine Tat.bnd h S fun F2 H2 ρ2 vs ds s2 S2 r2 h => ?_
    exact Tat.ok (a := Ar.c j :: ds) h _ F2 H2 (Same.refl _) S2 (RAs.cons h1 r2)
  · cases e1
end
/-- a call whose arguments stand -/
def evCall0 (n : Nat) (G : Fn) (as : List AE) (ds : List D := []) : Ev := bnd (evAs as) fun ar => noEr (callG n G (ar ++ ds.map .d))
theorem Tat.noEr {α β : Type} {R : Rel3 β α} {m : M α} {Q : β → Hp → Prop} (h : Tat K ct R W fr F ρ (PL.noEr m) σ Q) : Tat K ct R (fun _ _ _ _ => False) fr F ρ m σ Q := by
  obtain ⟨r, ρ', e, q⟩ := h
  unfold PL.noEr at e
  split at e
  · rename_i a ρ1 h1
    cases e
    exact ⟨_, _, h1, q⟩
  · cases e
theorem spP.no {n : Nat} {G : Fn} {vs : List V} {H : Hp} {Q : VK} {E : XK} (h : spP K ad n (noEr G) vs H Q E) : spP K ad n G vs H Q (fun _ _ _ => False) := by
  obtain ⟨hn, fr, F, ss, S, hP, hF, t⟩ := h
  exact ⟨hn, fr, F, ss, S, hP, hF, t.noEr⟩
/-- a def that raises nothing -/
def run0 (k : Nat) (s : M Fl) : Fn := noEr (runB k s)
theorem ok0 {P : Program} {w : World} {mg : Str → Option Value} {base : Heap} {x qual : Str} {st : Stmt} {f : Addr} {fd : FuncData} {N ps : List Str} {lv : Nat} {n k : Nat} {s : M Fl} (Fd : L2.Fun K x qual st f fd) (S : FnScope N ps (defScope st)) (hp : ps.length = n) (hN : N.length = n + k)
    (hb : ∀ (cdv : Value) (A : Around) (outer : List Env) (s0 : Shared) (H : Hp) (E : XK), Room lv (A.deeper (envOfC qual (defScope st) s0.heap.objs.size f cdv)) →
      PSs (cxOf CX0 P w K mg base N qual (defScope st) f cdv A outer s0 H E).nox (defBody st) (TSt K (cx ad) (fun _ _ _ _ => False) s)) : FnOk P w K mg base CX0 (lv + 1) f fd ps (spP K ad n (run0 k s)) :=
  Fd.ok S (fun vs H Q E h => by rw [hp]; exact h.1) fun cdv A outer s0 H vs Q E hr h => ⟨_, hb cdv A outer s0 H E hr, body_end (E := fun _ _ _ => False) hN h.no⟩
inductive Dfs : List V → List D → Prop
  | nil : Dfs [] []
  | cons {v : V} {d : D} {vs : List V} {ds : List D} (h : d.toV = some v) (r : Dfs vs ds) : Dfs (v :: vs) (d :: ds)
theorem RAs.dfs {F : Hp} {σ : L2.St} {dvs : List V} {ds : List D} (hd : Dfs dvs ds) : ∀ {vs : List V} {as : List Ar}, RAs K ct.ad F σ vs as → RAs K ct.ad F σ (vs ++ dvs) (as ++ ds.map .d)
  | _, _, .nil => by
    induction hd with
    | nil => exact .nil
    | cons h _ ih => exact .cons (D.toV_rp h) ih
  | _, _, .cons h r => .cons h (RAs.dfs hd r)
section
variable {X : Cx} {CX : CXT} {k : Nat} {f : Addr} {fd : FuncData} {ps : List Str} {x : Str} {p pos apos : Pos} {e o : Expr} {es : List Expr} {n : Nat} {G : Fn} {as : List AE} {dvs : List V} {dds : List D} {ds : List Value}
theorem pp_call (Fn : FnOk X.prog X.w X.K X.mg X.base CX k f fd ps (spP K ct.ad n G)) (hr : Room k X.A) (hg : Gl X x) (hm : X.mg x = some (.ref f)) (hk : PySem.W.keepIn X.K (.ref f) = true) (hb : Binds X.K fd ps ds) (hd : Vals dvs ds) (hx : Passes CX X E0)
    (ha : PA X (e :: es) (TAr K ct W (evAs as))) (hdf : Dfs dvs dds) (hdb : (x == ("__debug__" : Str)) = false := by decide) (he : starEach (e :: es) X.env = (false, eval e X.env) :: starEach es X.env := by rfl) (hpl : (backTo pos (starEach es X.env)).any (·.1) = false := by rfl) :
    PE X (.Call (.Name x p) (e :: es) [] pos) (TP K ct W (evCall0 n G as dds)) := (pe_call Fn hr hg hm hk hb hd hx ha hdb he hpl).imp fun σ H Q h => by
  obtain ⟨fr, F, ρ, S, h⟩ := h
  refine Tat.bnd h S fun F1 H1 ρ1 vs ar s1 S1 r1 h => ?_
  exact Tat.call (W := fun _ _ _ _ => False) h.noEr S1 (RAs.dfs hdf r1) fun _ _ _ z => z
/-! methods of data objects -/
def evMeth (n : Nat) (G : Fn) (c : Cl) (o : Ev) (as : List AE) : Ev := bnd (dat o) fun d => match d with
  | .obj c' xs => if c' = c then bnd (evAs as) fun ar => noEr (callG n G (.d (.obj c' xs) :: ar)) else fai
  | _ => fai
def evMethS (n : Nat) (G : Fn) (c : Cl) (o : Ev) (as : List AE) : Ev := bnd (dat o) fun d => match d with
  | .obj c' xs => if c' = c then bnd (evAs as) fun ar => callG n G (.d (.obj c' xs) :: ar) else fai
  | _ => fai
theorem Tat.obj {δ γ : Type} {R' : Rel3 δ γ} {m : Ev} {c : Cl} {k : List D → M γ} {Q : δ → Hp → Prop} {Q1 : V → Hp → Prop}
    (h : Tat K ct R' W fr F ρ (PL.bnd (PL.dat m) fun d => match d with | .obj c' xs => if c' = c then k xs else fai | _ => fai) σ Q) (S : Rel K ct fr F H σ ρ)
    (hq : ∀ F1 H1 ρ1 a dx vs xs, Same F F1 → Rel K ct fr F1 H1 σ ρ1 → F1 a = some (.ins (ct.ad c) dx (c.fn.zip vs)) → c.fn.length = vs.length → Rps K ct.ad F1 vs xs → Tat K ct R' W fr F1 ρ1 (k xs) σ Q → Q1 (.ref a) H1) : T K ct (RV K ct.ad) W m σ H Q1 := by
  refine Tat.dat h S fun F1 H1 ρ1 v d s1 S1 r1 h => ?_
  cases d with
  | obj c' xs =>
    cases r1 with
    | @obj a dx _ vs _ h1 l1 k1 =>
      have h9 : Tat K ct R' W fr F1 ρ1 (if c' = c then k xs else fai) σ Q := h
      clear h
      split at h9
      · rename_i ec
        subst ec
        exact hq F1 H1 ρ1 a dx vs xs s1 S1 h1 l1 k1 h9
      · obtain ⟨_, _, e, _⟩ := h9; cases e
  | _ => obtain ⟨_, _, e, _⟩ := h; cases e
theorem dcont {α : Type} {c : Cl} {k : Cl → List D → M α} : (fun d : D => match d with | .obj c' xs => if c' = c then k c' xs else fai | _ => (fai : M α)) = fun d => match d with | .obj c' xs => if c' = c then k c xs else fai | _ => fai := by
  funext d
  cases d <;> try rfl
  rename_i c' xs
  by_cases e : c' = c
  · subst e; rfl
  · simp [e]
/-- how a call of a method runs, with these words -/
abbrev CallsM (X : Cx) (o : Expr) (m : Str) (apos pos : Pos) (pl : Sem Bool) (ws : List Expr) : Prop :=
  eval (.Call (.Attribute o m apos) ws [] pos) X.env = eval o X.env >>= fun y => standAt apos.atName >>= fun _ => holding [y] (getMethod y m pl) >>= fun z =>
    callWith pos z.1 z.2 (backTo pos (starEach ws X.env)) (backToKw pos (keywordEach [] X.env))
theorem pp_meth {m : Str} {pl : Sem Bool} {fo : Ev} (c : Cl) (he : PE X o (TP K ct W fo)) (cl : Cls X.K (ct.ad c)) (hm : Meth X.K (ct.ad c) m f) (Fn : FnOk X.prog X.w X.K X.mg X.base CX k f fd ps (spP K ct.ad n G)) (hr : Room k X.A) (hb : Binds X.K fd ps []) (hx : Passes CX X E0)
    (ha : PA X (e :: es) (TAr K ct W (evAs as))) (nm : c.fn.findIdx? (fun k => m == k) = none := by decide)
    (hst : starEach (e :: es) X.env = (false, eval e X.env) :: starEach es X.env := by rfl) (hpl : (backTo pos (starEach es X.env)).any (·.1) = false := by rfl)
    (ht : CallsM X o m apos pos pl (e :: es) := by rfl) :
    PE X (.Call (.Attribute o m apos) (e :: es) [] pos) (TP K ct W (evMeth n G c fo as)) := (pe_meth he cl hm Fn hr hb .nil hx ha hst hpl ht).imp fun σ H Q h => by
  obtain ⟨fr, F, ρ, S, h⟩ := h
  unfold evMeth at h
  rw [dcont (k := fun c xs => bnd (evAs as) fun ar => noEr (callG n G (.d (.obj c xs) :: ar)))] at h
  refine Tat.obj h S fun F1 H1 ρ1 a dx vs xs s1 S1 h1 l1 k1 h => ?_
  refine ⟨a, dx, _, rfl, S1.fh _ _ h1, look_no nm, ?_⟩
  refine Tat.bnd h S1 fun F2 H2 ρ2 us ar s2 S2 r2 h => ?_
  rw [List.append_nil]
  exact Tat.call (W := fun _ _ _ _ => False) h.noEr S2 (RAs.cons ((Rp.obj h1 l1 k1).mono s2) r2) fun _ _ _ z => z
/-- o.m(e, ..), what it raises meets the wish at the slots as they stand -/
def tMethE (C : Addr) (m : Str) (sp : Sp) (E : L2.St → XK) (ta : TE) (t : TA) : TE := fun σ H Q => ta σ H fun x H1 => ∃ a dx fs, x = .ref a ∧ H1 a = some (.ins C dx fs) ∧ fs.lookup m = none ∧ t σ H1 fun vs H2 => sp (x :: vs) H2 Q (E σ)
theorem pe_methE {C : Addr} {m : Str} {pl : Sem Bool} {sp : Sp} {E : L2.St → XK} {ta : TE} {t : TA} (he : PE X o ta) (c : Cls X.K C) (hm : Meth X.K C m f) (Fn : FnOk X.prog X.w X.K X.mg X.base CX k f fd ps sp) (hr : Room k X.A) (hb : Binds X.K fd ps []) (hx : ∀ σ, PassesAt CX X σ (E σ)) (ha : PA X (e :: es) t)
    (hst : starEach (e :: es) X.env = (false, eval e X.env) :: starEach es X.env := by rfl) (hpl : (backTo pos (starEach es X.env)).any (·.1) = false := by rfl)
    (ht : CallsM X o m apos pos pl (e :: es) := by rfl) :
    PE X (.Call (.Attribute o m apos) (e :: es) [] pos) (tMethE C m sp E ta t) := by
  (refine ⟨fun pins s σ H Q I h => ?_⟩)
  (refine PySem.W.methodCall_KW (pl := pl) (thn (he.run pins s σ H _ I h) fun u s1 ⟨x, H1, I1, rx, a, dx, fs, ex, ea, l, q⟩ => ?_) ht)
  subst ex
  (obtain rfl : u = Value.ref a := rx)
  (refine getmeth_ok I1 ea c hm l ?_)
  (refine PySem.W.callWith_K (first := [.ref a]) (h₀ := X.base) I.ok.mod.kin hm.kp (thn (ha.run pos pins s1 σ H1 _ I1 q) fun us s2 ⟨vs, H2, I2, r, q2⟩ => ⟨I2.kIn, ?_⟩) hst hpl)
  exact run_fnS (us := .ref a :: us) (vs := .ref a :: vs) Fn hr hb (hx σ) I2 (.cons rfl r) q2
theorem pp_methS {m : Str} {pl : Sem Bool} {fo : Ev} (c : Cl) (he : PE X o (TP K ct W fo)) (cl : Cls X.K (ct.ad c)) (hm : Meth X.K (ct.ad c) m f) (Fn : FnOk X.prog X.w X.K X.mg X.base (L2.CX X.prog X.w) k f fd ps (spP K ct.ad n G)) (tk : Takes X W) (hr : Room k X.A) (hb : Binds X.K fd ps [])
    (ha : PA X (e :: es) (TAr K ct W (evAs as))) (nm : c.fn.findIdx? (fun k => m == k) = none := by decide)
    (hst : starEach (e :: es) X.env = (false, eval e X.env) :: starEach es X.env := by rfl) (hpl : (backTo pos (starEach es X.env)).any (·.1) = false := by rfl)
    (ht : CallsM X o m apos pos pl (e :: es) := by rfl) :
    PE X (.Call (.Attribute o m apos) (e :: es) [] pos) (TP K ct W (evMethS n G c fo as)) := (pe_methE he cl hm Fn hr hb (fun σ => passAt tk σ) ha hst hpl ht).imp fun σ H Q h => by
  obtain ⟨fr, F, ρ, S, h⟩ := h
  unfold evMethS at h
  rw [dcont (k := fun c xs => bnd (evAs as) fun ar => callG n G (.d (.obj c xs) :: ar))] at h
  refine Tat.obj h S fun F1 H1 ρ1 a dx vs xs s1 S1 h1 l1 k1 h => ?_
  refine ⟨a, dx, _, rfl, S1.fh _ _ h1, look_no nm, ?_⟩
  refine Tat.bnd h S1 fun F2 H2 ρ2 us ar s2 S2 r2 h => ?_
  exact Tat.call h S2 (RAs.cons ((Rp.obj h1 l1 k1).mono s2) r2) fun _ _ _ z => z
/-! properties -/
theorem pp_prop {m : Str} {q : Addr} {fo : Ev} (c : Cl) (he : PE X o (TP K ct W fo)) (cl : Cls X.K (ct.ad c)) (hp : PropOf X.K (ct.ad c) m q f) (Fn : FnOk X.prog X.w X.K X.mg X.base CX k f fd ps (spP K ct.ad n G)) (hr : Room (k + 1) X.A) (hb : Binds X.K fd ps []) (hx : Passes CX X.nox E0)
    (hab : attributeBase o m X.env (eval o X.env) = eval o X.env := by rfl) : PE X (.Attribute o m pos) (TP K ct W (evMeth n G c fo [])) := (pe_prop he cl hp Fn hr hb .nil hx hab).imp fun σ H Q h => by
  obtain ⟨fr, F, ρ, S, h⟩ := h
  unfold evMeth at h
  rw [dcont (k := fun c xs => bnd (evAs []) fun ar => noEr (callG n G (.d (.obj c xs) :: ar)))] at h
  refine Tat.obj h S fun F1 H1 ρ1 a dx vs xs s1 S1 h1 l1 k1 h => ?_
  refine ⟨a, dx, _, rfl, S1.fh _ _ h1, ?_⟩
  exact Tat.call (W := fun _ _ _ _ => False) (ar := [.d (.obj c xs)]) (Tat.noEr h) S1 (RAs.cons (Rp.obj h1 l1 k1) RAs.nil) fun _ _ _ z => z
/-! operators of own objects -/
def evOwn2 (n : Nat) (G : Fn) (c : Cl) (a b : Ev) : Ev := bnd (dat a) fun d => match d with
  | .obj c' xs => if c' = c then bnd (dat b) fun d2 => (match d2 with
      | .obj c2 ys => if c2 = c then noEr (callG n G [.d (.obj c xs), .d (.obj c ys)]) else fai
      | _ => fai) else fai
  | _ => fai
theorem w_own2 {c : Cl} {fa fb : Ev} {Q : VK} (h : TP K ct W (evOwn2 n G c fa fb) σ H Q) : tOp (OW.rOwn2 (ct.ad c) (spP K ct.ad n G) E0) (TP K ct W fa) (TP K ct W fb) σ H Q := by
  obtain ⟨fr, F, ρ, S, h⟩ := h
  refine Tat.obj h S fun F1 H1 ρ1 a dx vs xs s1 S1 h1 l1 k1 h => ?_
  refine Tat.obj h S1 fun F2 H2 ρ2 b dy us ys s2 S2 h2 l2 k2 h => ?_
  refine ⟨a, dx, _, b, dy, _, rfl, rfl, S2.fh _ _ (s2 _ _ h1), S2.fh _ _ h2, ?_⟩
  exact Tat.call (W := fun _ _ _ _ => False) (Tat.noEr h) S2 (RAs.cons ((Rp.obj h1 l1 k1).mono s2) (RAs.cons (Rp.obj h2 l2 k2) RAs.nil)) fun _ _ _ z => z
theorem pp_owncmp {op : CmpOp} {m : Str} {a b : Expr} {fa fb : Ev} (c : Cl) (hm : m = (PySem.cmpInfo op).2.1) (hop : ∀ a b, compareOp op a b = richCompare op a b) (M : Meth X.K (ct.ad c) m f) (hn : PySem.W.notFirst X.K (ct.ad c) (.ref (ct.ad c)) = true) (Fn : FnOk X.prog X.w X.K X.mg X.base CX k f fd ps (spP K ct.ad n G)) (hr : Room k X.A) (hb : Binds X.K fd ps []) (hx : Passes CX X E0)
    (ha : PE X a (TP K ct W fa)) (hbb : PE X b (TP K ct W fb)) (hmk : behindInMarks op b = false) : PE X (.Compare a [op] [b] pos) (TP K ct W (evOwn2 n G c fa fb)) := (pe_cmpR (OW.op_cmp hm hop M hn Fn hr hb hx) ha hbb hmk).imp fun _ _ _ => w_own2
/-- x in o, o an own object -/
def evOwnIn (n : Nat) (G : Fn) (c : Cl) (a b : Ev) : Ev := bnd (dat a) fun x => bnd (dat b) fun d => match d with
  | .obj c' xs => if c' = c then tst (noEr (callG n G [.d (.obj c xs), .d x])) |> fun t => bnd t fun b => vD (.bl b) else fai
  | _ => fai
theorem pp_ownin {m : Str} {a b : Expr} {fa fb : Ev} (c : Cl) (hm : m = "__contains__") (M : Meth X.K (ct.ad c) m f) (Fn : FnOk X.prog X.w X.K X.mg X.base CX k f fd ps (spP K ct.ad n G)) (hr : Room k X.A) (hb : Binds X.K fd ps []) (hx : Passes CX X E0)
    (ha : PE X a (TP K ct W fa)) (hbb : PE X b (TP K ct W fb)) (hmk : behindInMarks .In b = false) : PE X (.Compare a [.In] [b] pos) (TP K ct W (evOwnIn n G c fa fb)) := (pe_cmpR (OW.op_in hm M Fn hr hb hx) ha hbb hmk).imp fun σ H Q h => by
  obtain ⟨fr, F, ρ, S, h⟩ := h
  refine Tat.dat h S fun F0 H0 ρ0 x dx0 s0 S0 r0 h => ?_
  refine Tat.obj h S0 fun F1 H1 ρ1 a dx vs xs s1 S1 h1 l1 k1 h => ?_
  refine ⟨a, dx, _, rfl, S1.fh _ _ h1, ?_⟩
  have h2 : Tat K ct (RV K ct.ad) W fr F1 ρ1 (noEr (callG n G [.d (.obj c xs), .d dx0])) σ fun z H' => ∃ b, z = .bl b ∧ Q (.bl (if false then !b else b)) H' :=
    Tat.tstT (k := fun b => vD (.bl b)) h fun F2 H2 ρ2 b s2 S2 h => ⟨b, rfl, Tat.ok (a := Rv.d (.bl b)) h _ F2 H2 (Same.refl _) S2 (Rp.bl b)⟩
  exact Tat.call (W := fun _ _ _ _ => False) (Tat.noEr h2) S1 (RAs.cons (Rp.obj h1 l1 k1) (RAs.cons (r0.mono s1) RAs.nil)) fun _ _ _ z => z
end
end PL
end
section
namespace PL
open PySem PySem.Spec PyProof.Rows L2
variable {K : PySem.W.Frag} {ad : Cl → Addr} {ct : CT}
variable {fr : Fr} {F F' H H' : Hp} {σ : L2.St} {ρ : List Sl} {W : WX}
/-! ### statements -/
def evSeq (s t : M Fl) : M Fl := fun ρ => match s ρ with
  | some (.ok .nx, ρ1) => t ρ1
  | r => r
def evNx : M Fl := pur .nx
def setD (i : Nat) (d : D) : M Fl := fun ρ => match ρ[i]? with
  | some (.cel .par _) => none
  | some _ => some (.ok .nx, ρ.set i (.dat d))
  | none => none
def setC (i : Nat) (c : CC) : M Fl := fun ρ => match ρ[i]? with
  | some (.cel .par _) => none
  | some _ => some (.ok .nx, ρ.set i (.cel .own c))
  | none => none
def evAsg (i : Nat) (e : Ev) : M Fl := bnd (dat e) fun d => setD i d
def evAsgC (i : Nat) (e : Ev) : M Fl := bnd e fun r => match r with | .c c => setC i c | .d _ => fai
def evEx (e : Ev) : M Fl := bnd e fun _ => pur .nx
def evRet (e : Ev) : M Fl := bnd e fun r => pur (.rt r)
def evIf (t : M Bool) (a b : M Fl) : M Fl := bnd t fun c => if c then a else b
variable (K ct) in
theorem Sat.bnd {R : Rel3 β α} {D : Ends} {m : M α} {k : α → M Fl} {Q1 : β → Hp → Prop} (h : Sat K ct W D fr F ρ (PL.bnd m k)) (S : Rel K ct fr F H σ ρ)
    (hW : ∀ σ' cls d H', W cls d σ' H' → W cls d σ' H')
    (hq : ∀ F1 H1 ρ1 v a, Same F F1 → Rel K ct fr F1 H1 σ ρ1 → R fr F1 H1 σ ρ1 v a → Sat K ct W D fr F1 ρ1 (k a) → Q1 v H1) : T K ct R W m σ H Q1 := by
  refine ⟨fr, F, ρ, S, ?_⟩
  obtain ⟨r, ρ', e, q⟩ := h
  unfold PL.bnd at e
  cases em : m ρ with
  | none => rw [em] at e; cases e
  | some x =>
    obtain ⟨r1, ρ1⟩ := x
    rw [em] at e
    cases r1 with
    | ok a =>
      refine ⟨.ok a, ρ1, em, fun v F1 H1 s1 S1 r1 => hq F1 H1 ρ1 v a s1 S1 r1 ⟨r, ρ', e, ?_⟩⟩
      cases r with
      | ok z =>
        cases z with
        | nx => exact fun σ' F' H' s' => q σ' F' H' (s1.trans s')
        | bk => exact fun σ' F' H' s' => q σ' F' H' (s1.trans s')
        | ct => exact fun σ' F' H' s' => q σ' F' H' (s1.trans s')
        | rt x => exact fun σ' v F' H' s' => q σ' v F' H' (s1.trans s')
      | er c pl => exact fun σ' d F' H' s' => q σ' d F' H' (s1.trans s')
    | er c pl =>
      refine ⟨.er c pl, ρ1, em, ?_⟩
      have e : (some (Ex.er c pl, ρ1) : Option (Ex Fl × List Sl)) = some (r, ρ') := e
      cases e
      exact fun d F' H' s' S' pr => q σ d F' H' s' S' pr
theorem Sat.mono {D : Ends} {s : M Fl} (h : Sat K ct W D fr F ρ s) (s1 : Same F F') : Sat K ct W D fr F' ρ s := by
  obtain ⟨r, ρ', e, q⟩ := h
  refine ⟨r, ρ', e, ?_⟩
  cases r with
  | ok z =>
    cases z with
    | nx => exact fun σ' F' H' s' => q σ' F' H' (s1.trans s')
    | bk => exact fun σ' F' H' s' => q σ' F' H' (s1.trans s')
    | ct => exact fun σ' F' H' s' => q σ' F' H' (s1.trans s')
    | rt x => exact fun σ' v F' H' s' => q σ' v F' H' (s1.trans s')
  | er c pl => exact fun σ' d F' H' s' => q σ' d F' H' (s1.trans s')
/-- .. of data -/
theorem Sat.dat {D : Ends} {m : Ev} {k : PL.D → M Fl} {Q1 : V → Hp → Prop} (h : Sat K ct W D fr F ρ (PL.bnd (PL.dat m) k)) (S : Rel K ct fr F H σ ρ)
    (hq : ∀ F1 H1 ρ1 v d, Same F F1 → Rel K ct fr F1 H1 σ ρ1 → Rp K ct.ad F1 v d → Sat K ct W D fr F1 ρ1 (k d) → Q1 v H1) : T K ct (RV K ct.ad) W m σ H Q1 := by
  have e : PL.bnd (PL.dat m) k = PL.bnd m fun r => PL.bnd (match r with | Rv.d d => pur d | Rv.c c => PL.opt c.froz) k := by
    funext ρ
    unfold PL.dat PL.bnd
    cases em : m ρ with
    | none => rfl
    | some x =>
      obtain ⟨r1, ρ1⟩ := x
      cases r1 with
      | ok a => cases a <;> rfl
      | er c pl => rfl
  rw [e] at h
  refine Sat.bnd K ct h S (fun _ _ _ _ z => z) fun F1 H1 ρ1 v r s1 S1 r1 q => ?_
  cases r with
  | d d => exact hq F1 H1 ρ1 v d s1 S1 r1 q
  | c c =>
    obtain ⟨p, ev, fp⟩ := r1
    subst ev
    cases ef : c.froz with
    | none =>
      obtain ⟨r, ρ', e, q⟩ := q
      have e : PL.bnd (PL.opt c.froz) k ρ1 = some (r, ρ') := e
      rw [ef] at e
      cases e
    | some d =>
      obtain ⟨F2, s2, rp, S2⟩ := fp.frz S1 ef
      refine hq F2 H1 ρ1 _ d (s1.trans s2) S2 rp ?_
      have q2 := q.mono s2
      obtain ⟨r, ρ', e, q⟩ := q2
      have e : PL.bnd (PL.opt c.froz) k ρ1 = some (r, ρ') := e
      rw [ef] at e
      exact ⟨r, ρ', e, q⟩
theorem Sat.to {D : Ends} {s : M Fl} (h : Sat K ct W D fr F ρ s) (S : Rel K ct fr F H σ ρ) : TSt K ct W s D σ H := ⟨fr, F, ρ, S, h⟩
theorem Sat.nx {D : Ends} (h : Sat K ct W D fr F ρ (pur .nx)) {σ' : L2.St} {H' : Hp} (s : Same F F') (S : Rel K ct fr F' H' σ' ρ) : D.nx σ' H' := by
  obtain ⟨r, ρ', e, q⟩ := h
  cases e
  exact q σ' F' H' s S
theorem Rel.npar (S : Rel K ct fr F H σ ρ) {i : Nat} {s : Sl} (e : ρ[i]? = some s) (h : ∀ c, s ≠ .cel .par c) : fr.pa i = none := by
  cases z : fr.pa i with
  | none => rfl
  | some q =>
    obtain ⟨k1, c1, h1, h2⟩ := S.pcs i q z
    rw [e] at h1
    cases h1
    cases k1 with
    | own => cases h2
    | par => exact absurd rfl (h c1)
theorem Sat.setD {D : Ends} {i : Nat} {d : PL.D} {v : V} (h : Sat K ct W D fr F ρ (PL.setD i d)) (S : Rel K ct fr F H σ ρ) (r : Rp K ct.ad F v d) : D.nx (σ.set i (some v)) H := by
  obtain ⟨r0, ρ', e, q⟩ := h
  unfold PL.setD at e
  split at e
  · cases e
  · rename_i s hn hs
    cases e
    exact q _ F H (Same.refl _) (S.setD r (S.npar hs hn))
  · cases e
theorem Sat.setC {D : Ends} {i : Nat} {c : CC} {p : Addr} (h : Sat K ct W D fr F ρ (PL.setC i c)) (S : Rel K ct fr F H σ ρ) (r : Fresh K ct.ad fr F H σ ρ p c) : D.nx (σ.set i (some (.ref p))) H := by
  obtain ⟨r0, ρ', e, q⟩ := h
  unfold PL.setC at e
  split at e
  · cases e
  · rename_i s hn hs
    cases e
    exact q _ F H (Same.refl _) (S.setC r (S.npar hs hn))
  · cases e
section
variable {X : Cx} {e : Expr} {m : Ev} {pos pos' : Pos} {s t : M Fl} {tb : M Bool} {st : Stmt} {sts : List Stmt}
theorem ss_c (h1 : PS X st (TSt K ct W s)) (h2 : PSs X sts (TSt K ct W t)) : PSs X (st :: sts) (TSt K ct W (evSeq s t)) := (pss_cons h1 h2).imp fun D σ H h => by
  obtain ⟨fr, F, ρ, S, r, ρ', e, q⟩ := h
  refine ⟨fr, F, ρ, S, ?_⟩
  unfold evSeq at e
  cases es : s ρ with
  | none => rw [es] at e; cases e
  | some x =>
    obtain ⟨r1, ρ1⟩ := x
    rw [es] at e
    refine ⟨r1, ρ1, es, ?_⟩
    cases r1 with
    | ok fl =>
      cases fl with
      | nx =>
        intro σ1 F1 H1 s1 S1
        refine ⟨fr, F1, ρ1, S1, Sat.mono ⟨r, ρ', e, q⟩ s1⟩
      | bk => cases e; exact q
      | ct => cases e; exact q
      | rt x => cases e; exact q
    | er c pl => cases e; exact q
theorem ss_1 (h1 : PS X st (TSt K ct W s)) : PSs X [st] (TSt K ct W s) := (pss_one h1).imp fun D σ H h => h
theorem ss_n : PSs X [] (TSt K ct W evNx) := pss_nil.imp fun D σ H ⟨fr, F, ρ, S, h⟩ => h.nx (Same.refl _) S
theorem s_set {i : Nat} {x : Str} (hN : X.N.Nodup) (hi : X.N[i]? = some x) (hx : Loc X.env.scope x) (he : PE X e (TP K ct W m)) (hs : swapsWith e (some (.Name x pos')) pos.line X.env = pure false := by rfl) (hf : X.fn x = true ∨ X.env.scope.names.lookup x = some .local := by first | exact .inl rfl | exact .inr rfl | assumption) :
    PS X (.Assign [.Name x pos'] e pos) (TSt K ct W (evAsg i m)) := (ps_set hN hi hx he hs hf).imp fun D σ H ⟨fr, F, ρ, S, h⟩ => h.dat S fun F1 H1 ρ1 v d s1 S1 r1 h => h.setD S1 r1
theorem w_setC {i : Nat} {D : Ends} (h : TSt K ct W (evAsgC i m) D σ H) : tAsg (TP K ct W m) (gName i) D σ H := by
  obtain ⟨fr, F, ρ, S, h⟩ := h
  refine Sat.bnd K ct h S (fun _ _ _ _ z => z) fun F1 H1 ρ1 v r s1 S1 r1 h => ?_
  cases r with
  | d d => obtain ⟨_, _, e, _⟩ := h; cases e
  | c c => obtain ⟨p, ev, fp⟩ := r1; subst ev; exact Sat.setC h S1 fp
theorem s_setC {i : Nat} {x : Str} (hN : X.N.Nodup) (hi : X.N[i]? = some x) (hx : Loc X.env.scope x) (he : PE X e (TP K ct W m)) (hs : swapsWith e (some (.Name x pos')) pos.line X.env = pure false := by rfl) (hf : X.fn x = true ∨ X.env.scope.names.lookup x = some .local := by first | exact .inl rfl | exact .inr rfl | assumption) :
    PS X (.Assign [.Name x pos'] e pos) (TSt K ct W (evAsgC i m)) := (ps_set hN hi hx he hs hf).imp fun D σ H => w_setC
theorem s_ex (he : PE X e (TP K ct W m)) (hs : swapsWith e none pos.line X.env = pure false := by rfl) : PS X (.Expr e pos) (TSt K ct W (evEx m)) := (ps_expr he hs).imp fun D σ H ⟨fr, F, ρ, S, h⟩ => Sat.bnd K ct h S (fun _ _ _ _ z => z) fun F1 H1 ρ1 v r s1 S1 r1 h => Sat.nx h (Same.refl _) S1
theorem s_ret (he : PE X e (TP K ct W m)) : PS X (.Return (some e) pos) (TSt K ct W (evRet m)) := (ps_ret he).imp fun D σ H ⟨fr, F, ρ, S, h⟩ => Sat.bnd K ct h S (fun _ _ _ _ z => z) fun F1 H1 ρ1 v r s1 S1 r1 ⟨_, _, e, q⟩ => by
  cases e
  exact q σ v F1 H1 (Same.refl _) S1 r1
theorem s_if {c : Expr} {a b : List Stmt} (hc : PT X c (TB K ct W tb)) (ha : PSs X a (TSt K ct W s)) (hb : PSs X b (TSt K ct W t)) : PS X (.If c a b pos) (TSt K ct W (evIf tb s t)) := (ps_if hc ha hb).imp fun D σ H ⟨fr, F, ρ, S, h⟩ =>
  Sat.bnd K ct h S (fun _ _ _ _ z => z) fun F1 H1 ρ1 v c s1 S1 r1 h => by
    cases r1
    cases v with
    | true => rw [if_pos rfl]; exact h.to S1
    | false => rw [if_neg Bool.false_ne_true]; exact h.to S1
end
/-! ### targets -/
inductive Tg | n (i : Nat) | t (ts : List Tg)
mutual
def asgT : Tg → D → M Fl
  | .n i, d => setD i d
  | .t ts, .tup xs => asgTs ts xs
  | .t _, _ => fai
def asgTs : List Tg → List D → M Fl
  | [], [] => pur .nx
  | t :: ts, x :: xs => evSeq (asgT t x) (asgTs ts xs)
  | _, _ => fai
end
mutual
def Tg.sl : Tg → List Nat
  | .n i => [i]
  | .t ts => Tg.sls ts
def Tg.sls : List Tg → List Nat
  | [] => []
  | x :: xs => Tg.sl x ++ Tg.sls xs
end
/-- the slots outside vs are as they were -/
def OutS (vs : List Nat) (σ σ' : L2.St) : Prop := σ'.length = σ.length ∧ ∀ i, i ∉ vs → σ'[i]? = σ[i]?
theorem OutS.refl {vs : List Nat} {σ : L2.St} : OutS vs σ σ := ⟨rfl, fun _ _ => rfl⟩
theorem OutS.trans {vs : List Nat} {σ σ1 σ2 : L2.St} (a : OutS vs σ σ1) (b : OutS vs σ1 σ2) : OutS vs σ σ2 := ⟨b.1.trans a.1, fun i h => (b.2 i h).trans (a.2 i h)⟩
theorem wipe_get (σ : L2.St) : ∀ (vs : List Nat) (i : Nat), (wipe σ vs)[i]? = if i ∈ vs ∧ i < σ.length then some none else σ[i]?
  | [], i => by simp [wipe]
  | v :: vs, i => by
    have ih := wipe_get σ vs i
    show ((wipe σ vs).set v none)[i]? = _
    by_cases q : v = i
    · subst q
      by_cases l : v < σ.length
      · rw [List.getElem?_set_self (by rw [wipe_length]; exact l), if_pos ⟨List.mem_cons_self, l⟩]
      · rw [List.getElem?_eq_none (by rw [List.length_set, wipe_length]; omega), if_neg (fun z => l z.2), List.getElem?_eq_none (by omega)]
    · rw [List.getElem?_set_ne q, ih]
      by_cases m : i ∈ vs
      · by_cases l : i < σ.length
        · rw [if_pos ⟨m, l⟩, if_pos ⟨List.mem_cons_of_mem _ m, l⟩]
        · rw [if_neg (fun z => l z.2), if_neg (fun z => l z.2)]
      · rw [if_neg (fun z => m z.1), if_neg (fun z => (List.mem_cons.mp z.1).elim (fun w => q w.symm) m)]
theorem OutS.wipe {vs : List Nat} {σ σ' : L2.St} (a : OutS vs σ σ') : L2.wipe σ' vs = L2.wipe σ vs := by
  refine List.ext_getElem? fun i => ?_
  rw [wipe_get, wipe_get, a.1]
  split
  · rfl
  · rename_i h
    by_cases m : i ∈ vs
    · have l : ¬ i < σ.length := fun z => h ⟨m, z⟩
      rw [List.getElem?_eq_none (by rw [a.1]; omega), List.getElem?_eq_none (by omega)]
    · exact a.2 i m
theorem OutS.set {i : Nat} {v : Option V} {σ : L2.St} : OutS [i] σ (σ.set i v) := ⟨by simp, fun j h => List.getElem?_set_ne (fun z => h (by simp [z]))⟩
variable (K ct) in
def TGt (tg : Tg) : TG := fun v σ H Q => ∃ fr F ρ d ρ', Rel K ct fr F H σ ρ ∧ Rp K ct.ad F v d ∧ asgT tg d ρ = some (.ok .nx, ρ') ∧ ∀ σ' F' H', Same F F' → OutS tg.sl σ σ' → Rel K ct fr F' H' σ' ρ' → Q σ' H'
variable (K ct) in
def TGts (tg : List Tg) : TGs := fun vs σ H Q => ∃ fr F ρ ds ρ', Rel K ct fr F H σ ρ ∧ Rps K ct.ad F vs ds ∧ asgTs tg ds ρ = some (.ok .nx, ρ') ∧ ∀ σ' F' H', Same F F' → OutS (Tg.sls tg) σ σ' → Rel K ct fr F' H' σ' ρ' → Q σ' H'
theorem setD_ok {i : Nat} {d : D} {v : V} {ρ' : List Sl} (e : setD i d ρ = some (.ok .nx, ρ')) (S : Rel K ct fr F H σ ρ) (r : Rp K ct.ad F v d) : Rel K ct fr F H (σ.set i (some v)) ρ' := by
  unfold PL.setD at e
  split at e
  · cases e
  · rename_i s hn hs
    cases e
    exact S.setD r (S.npar hs hn)
  · cases e
section
variable {X : Cx} {pos : Pos}
theorem _root_.L2.PGs.imp {es : List Expr} {t t' : TGs} (h : PGs X es t) (w : ∀ v σ H Q, t' v σ H Q → t v σ H Q) : PGs X es t' := ⟨fun pins s σ H v u Q I r q => h.run pins s σ H v u Q I r (w v σ H Q q)⟩
theorem g_n {i : Nat} {x : Str} (hN : X.N.Nodup) (hi : X.N[i]? = some x) (hx : Loc X.env.scope x) (hf : X.fn x = true ∨ X.env.scope.names.lookup x = some .local := by first | exact .inl rfl | exact .inr rfl | assumption) : PG X (.Name x pos) (TGt K ct (.n i)) :=
  (pg_name hN hi hx hf).imp fun v σ H Q ⟨fr, F, ρ, d, ρ', S, r, e, q⟩ => q _ F H (Same.refl _) OutS.set (setD_ok e S r)
/-- a, b = e -/
def evAsgT (tg : Tg) (e : Ev) : M Fl := bnd (dat e) fun d => fun ρ => match asgT tg d ρ with | some (.ok .nx, ρ') => some (.ok .nx, ρ') | _ => none
end
/-! ### loops -/
/-- heaps that grow by new objects -/
def Al (F H F' H' : Hp) : Prop := Same F F' ∧ Same H H' ∧ Same F' H' ∧ ∀ b, H b ≠ none → F b = none → F' b = none
theorem Rel.al (S : Rel K ct fr F H σ ρ) (a : Al F H F' H') : Rel K ct fr F' H' σ ρ := S.grow a.1 a.2.1 a.2.2.1 a.2.2.2
theorem Al.refl (s : Same F H) : Al F H F H := ⟨Same.refl _, Same.refl _, s, fun _ _ z => z⟩
variable (K ad) in
def ItOk (F : Hp) (xs : List D) (J : It) : Prop := ∀ F1 H1, Same F F1 → Same F1 H1 → ∀ i, (∀ x, xs[i]? = some x → J.go i H1 ∧ ∀ v H2, J.yld i H1 v H2 → ∃ F2, Al F1 H1 F2 H2 ∧ Rp K ad F2 v x) ∧ (xs.length ≤ i → J.stop i H1)
variable (K ad) in
def RI : Rel3 It (List D) := fun _ F _ _ _ J xs => ItOk K ad F xs J
variable (K ct) in
abbrev TIt (W : WX) (m : M (List D)) : TI := T K ct (RI K ct.ad) W m
def loop (tg : Tg) (body : M Fl) : List D → M Fl
  | [] => pur .nx
  | x :: xs => fun ρ => match asgT tg x ρ with
    | some (.ok .nx, ρ1) => (match body ρ1 with
      | some (.ok .nx, ρ2) => loop tg body xs ρ2
      | some (.ok .ct, ρ2) => loop tg body xs ρ2
      | some (.ok .bk, ρ2) => some (.ok .nx, ρ2)
      | r => r)
    | _ => none
def evFor (it : M (List D)) (tg : Tg) (body : M Fl) : M Fl := bnd it fun xs => loop tg body xs
theorem w_for {it : M (List D)} {tg : Tg} {body : M Fl} {D : Ends} (h : TSt K ct W (evFor it tg body) D σ H) : tFor (TIt K ct W it) (TGt K ct tg) (TSt K ct W body) D σ H := by
  obtain ⟨fr, F, ρ, S, h⟩ := h
  refine Sat.bnd K ct h S (fun _ _ _ _ z => z) fun F1 H1 ρ1 J xs s1 S1 r1 h => ?_
  refine ⟨fun i m σ H => m = xs.length - i ∧ i ≤ xs.length ∧ ∃ F2 ρ2, Same F1 F2 ∧ Rel K ct fr F2 H σ ρ2 ∧ Sat K ct W D fr F2 ρ2 (loop tg body (xs.drop i)), ⟨xs.length, by simp, Nat.zero_le _, F1, ρ1, Same.refl _, S1, h⟩, ?_⟩
  rintro i m σ2 H2 ⟨rfl, hi, F2, ρ2, s2, S2, h2⟩
  have it := r1 F2 H2 s2 S2.fh i
  by_cases lt : i < xs.length
  · refine .inr ?_
    obtain ⟨go, yl⟩ := it.1 xs[i] (List.getElem?_eq_getElem lt)
    refine ⟨go, fun σ' H' => ∃ F3 ρ3, Same F1 F3 ∧ Rel K ct fr F3 H' σ' ρ3 ∧ Sat K ct W D fr F3 ρ3 (loop tg body (xs.drop (i + 1))), fun σ' H' ⟨F3, ρ3, s3, S3, h3⟩ => ⟨xs.length - (i + 1), by omega, rfl, lt, F3, ρ3, s3, S3, h3⟩, fun v H3 y => ?_⟩
    obtain ⟨F3, al, rp⟩ := yl v H3 y
    have S3 := S2.al al
    rw [List.drop_eq_getElem_cons lt] at h2
    have h2 := Sat.mono h2 al.1
    obtain ⟨r, ρ', e, q⟩ := h2
    unfold loop at e
    cases ea : asgT tg xs[i] ρ2 with
    | none => rw [ea] at e; cases e
    | some x =>
      obtain ⟨rx, ρ4⟩ := x
      rw [ea] at e
      cases rx with
      | er c pl => cases e
      | ok fl =>
        cases fl with
        | nx =>
          refine ⟨fr, F3, ρ2, xs[i], ρ4, S3, rp, ea, fun σ4 F4 H4 s4 _ S4 => ⟨fr, F4, ρ4, S4, ?_⟩⟩
          have e : (match body ρ4 with | some (.ok .nx, ρ2) => loop tg body (xs.drop (i + 1)) ρ2 | some (.ok .ct, ρ2) => loop tg body (xs.drop (i + 1)) ρ2 | some (.ok .bk, ρ2) => some (.ok .nx, ρ2) | r => r) = some (r, ρ') := e
          cases eb : body ρ4 with
          | none => rw [eb] at e; cases e
          | some y =>
            obtain ⟨ry, ρ5⟩ := y
            rw [eb] at e
            have sF : Same F1 F4 := (s2.trans al.1).trans s4
            have next : ∀ (e : loop tg body (xs.drop (i + 1)) ρ5 = some (r, ρ')) σ' F' H', Same F4 F' → Rel K ct fr F' H' σ' ρ5 → ∃ F3 ρ3, Same F1 F3 ∧ Rel K ct fr F3 H' σ' ρ3 ∧ Sat K ct W D fr F3 ρ3 (loop tg body (xs.drop (i + 1))) := fun e σ' F' H' s' S' =>
              ⟨F', ρ5, sF.trans s', S', Sat.mono (F := F3) ⟨r, ρ', e, q⟩ (s4.trans s')⟩
            refine ⟨ry, ρ5, eb, ?_⟩
            cases ry with
            | er c pl => cases e; exact fun σ' d F' H' s' => q σ' d F' H' (s4.trans s')
            | ok fl =>
              cases fl with
              | nx => exact next e
              | ct => exact next e
              | bk => cases e; exact fun σ' F' H' s' => q σ' F' H' (s4.trans s')
              | rt x => cases e; exact fun σ' v F' H' s' => q σ' v F' H' (s4.trans s')
        | _ => cases e
  · refine .inl ⟨it.2 (by omega), ?_⟩
    rw [List.drop_eq_nil_of_le (by omega)] at h2
    exact Sat.nx h2 (Same.refl _) S2
theorem s_for {X : Cx} {tg iter : Expr} {body : List Stmt} {it : M (List D)} {t : Tg} {b : M Fl} {pos : Pos} (hp : PassesOwn (model X.prog X.w) X.A X.env X.xe) (hc : X.calm = true) (hi : PI X tg iter (TIt K ct W it)) (hg : PG X tg (TGt K ct t)) (hb : PSs X body (TSt K ct W b))
    (hs : ∀ x, foldedSetIterable iter X.env x = pure x := by intro _; rfl) : PS X (.For tg iter body [] pos) (TSt K ct W (evFor it t b)) := (ps_for hp hc hi hg hb hs).imp fun D σ H => w_for
/-! while -/
def whl (t : M Bool) (body : M Fl) : Nat → M Fl
  | 0 => fai
  | n + 1 => bnd t fun c => if c then (fun ρ => match body ρ with
      | some (.ok .nx, ρ1) => whl t body n ρ1
      | some (.ok .ct, ρ1) => whl t body n ρ1
      | some (.ok .bk, ρ1) => some (.ok .nx, ρ1)
      | r => r) else pur .nx
open Classical in
/-- what a while that ends gives -/
noncomputable def evWhl (t : M Bool) (body : M Fl) : M Fl := fun ρ => if h : ∃ n r, whl t body n ρ = some r then some h.choose_spec.choose else none
end PL
end
section
namespace PL
open PySem PySem.Spec PyProof.Rows L2
variable {K : PySem.W.Frag} {ad : Cl → Addr} {ct : CT}
variable {fr : Fr} {F F' H H' : Hp} {σ : L2.St} {ρ : List Sl} {W : WX}
/-! ### what is walked -/
def D.litems : D → Option (List D) | .lst xs => some xs | .sq xs => some xs | _ => none
def D.titems : D → Option (List D) | .tup xs => some xs | _ => none
def chars (z : Str) : List D := z.cps.toList.map fun c => .str ⟨#[c]⟩
def D.sitems : D → Option (List D) | .str z => some (chars z) | _ => none
def itL (e : Ev) : M (List D) := bnd (dat e) fun d => opt d.litems
def itT (e : Ev) : M (List D) := bnd (dat e) fun d => opt d.titems
def itS (e : Ev) : M (List D) := bnd (dat e) fun d => opt d.sitems
def rngD (lo : Int) (n : Nat) : List D := (List.range n).map fun (i : Nat) => .int (lo + i)
def itR1 (e : Ev) : M (List D) := bnd (dat e) fun d => match d with | .int j => if -(2 ^ 62) ≤ j ∧ j < 2 ^ 62 then pur (rngD 0 j.toNat) else fai | _ => fai
def itR2 (a b : Ev) : M (List D) := bnd (dat a) fun x => bnd (dat b) fun y => match x, y with
  | .int i, .int j => if -(2 ^ 62) ≤ i ∧ i < 2 ^ 62 ∧ -(2 ^ 62) ≤ j ∧ j < 2 ^ 62 then pur (rngD i (j - i).toNat) else fai
  | _, _ => fai
theorem it_rng {lo : Int} {n : Nat} : ItOk K ct.ad F (rngD lo n) (Itr lo n) := by
  intro F1 H1 s1 s2 i
  refine ⟨fun x e => ?_, fun l => by unfold rngD at l; rw [List.length_map, List.length_range] at l; exact l⟩
  unfold rngD at e
  rw [List.getElem?_map] at e
  obtain ⟨j, e1, e2⟩ := Option.map_eq_some_iff.mp e
  obtain ⟨l, e3⟩ := List.getElem?_eq_some_iff.mp e1
  rw [List.length_range] at l
  rw [List.getElem_range] at e3
  subst e3
  subst e2
  refine ⟨l, fun v H2 y => ?_⟩
  obtain ⟨y1, y2⟩ := y
  subst y1 y2
  exact ⟨F1, Al.refl s2, .int _⟩
section
variable {X : Cx} {tg l : Expr} {m : Ev}
theorem pi_r1 {a : Expr} {p pos : Pos} {m : Ev} (hg : Gl X "range") (hm : X.mg "range" = none) (ha : PE X a (TP K ct W m)) (hs : starEach [a] X.env = [(false, eval a X.env)] := by rfl) : PI X tg (.Call (.Name "range" p) [a] [] pos) (TIt K ct W (itR1 m)) := by
  refine (pi_range1 hg hm (pa_cons ha pa_nil (by rw [hs]; rfl)) hs).imp fun σ H R h => ?_
  obtain ⟨fr, F, ρ, S, h⟩ := h
  refine Tat.dat h S fun F1 H1 ρ1 v d s1 S1 r1 h => ?_
  cases d with
  | int j =>
    cases r1
    have h : Tat K ct (RI K ct.ad) W fr F1 ρ1 (if -(2 ^ 62) ≤ j ∧ j < 2 ^ 62 then pur (rngD 0 j.toNat) else fai) σ R := h
    split at h
    · rename_i c
      exact ⟨j, rfl, c.1, c.2, Tat.ok h _ F1 H1 (Same.refl _) S1 it_rng⟩
    · obtain ⟨_, _, e, _⟩ := h; cases e
  | _ => obtain ⟨_, _, e, _⟩ := h; cases e
theorem pi_r2 {a b : Expr} {p pos : Pos} {m n : Ev} (hg : Gl X "range") (hm : X.mg "range" = none) (ha : PE X a (TP K ct W m)) (hb : PE X b (TP K ct W n)) (hs : starEach [a, b] X.env = [(false, eval a X.env), (false, eval b X.env)] := by rfl) (hs2 : starEach [b] X.env = [(false, eval b X.env)] := by rfl) : PI X tg (.Call (.Name "range" p) [a, b] [] pos) (TIt K ct W (itR2 m n)) := by
  refine (pi_range2 hg hm (pa_cons ha (pa_cons hb pa_nil (by rw [hs2]; rfl)) (by rw [hs, hs2])) hs hs2).imp fun σ H R h => ?_
  obtain ⟨fr, F, ρ, S, h⟩ := h
  refine Tat.dat h S fun F1 H1 ρ1 v d s1 S1 r1 h => ?_
  refine Tat.dat h S1 fun F2 H2 ρ2 u e s2 S2 r2 h => ?_
  have r1 := r1.mono s2
  cases d with
  | int i =>
    cases e with
    | int j =>
      cases r1
      cases r2
      have h : Tat K ct (RI K ct.ad) W fr F2 ρ2 (if -(2 ^ 62) ≤ i ∧ i < 2 ^ 62 ∧ -(2 ^ 62) ≤ j ∧ j < 2 ^ 62 then pur (rngD i (j - i).toNat) else fai) σ R := h
      split at h
      · rename_i c
        exact ⟨i, j, rfl, c, Tat.ok h _ F2 H2 (Same.refl _) S2 it_rng⟩
      · obtain ⟨_, _, e, _⟩ := h; cases e
    | _ => obtain ⟨_, _, e, _⟩ := h; cases e
  | _ => obtain ⟨_, _, e, _⟩ := h; cases e
end
/-! ### comprehensions -/
def wipeR (ρ : List Sl) : List Nat → List Sl
  | [] => ρ
  | v :: vs => (wipeR ρ vs).set v .un
def okOwn (ρ : List Sl) (vs : List Nat) : Bool := vs.all fun v => match ρ[v]? with | some (.cel _ _) => false | some (.exn _ _) => false | _ => true
def restR (ρ0 ρ : List Sl) : List Nat → List Sl
  | [] => ρ
  | v :: vs => (restR ρ0 ρ vs).set v ((ρ0[v]?).getD .un)
def lcGo (vs : List Nat) (tg : Tg) (c : M Bool) (e : Ev) : List D → List D → M (List D)
  | [], acc => pur acc
  | x :: xs, acc => fun ρ => match asgT tg x ρ with
    | some (.ok .nx, ρ1) => bnd (noEr c) (fun b => if b then bnd (dat (noEr e)) (fun d => if acc.length < 16777216 then (fun ρ => lcGo vs tg c e xs (acc ++ [d]) (wipeR ρ vs)) else fai) else fun ρ => lcGo vs tg c e xs acc (wipeR ρ vs)) ρ1
    | _ => none
def lcRun (vs : List Nat) (m : List D → List D → M (List D)) (xs : List D) : Ev := fun ρ => if okOwn ρ vs then match m xs [] (wipeR ρ vs) with
    | some (.ok acc, ρ') => some (.ok (.c (.lst acc)), restR ρ ρ' vs)
    | _ => none
  else none
def evLc (vs : List Nat) (it : M (List D)) (tg : Tg) (c : M Bool) (e : Ev) : Ev := bnd it fun xs => lcRun vs (lcGo vs tg c e) xs
theorem okOwn_np {vs : List Nat} (S : Rel K ct fr F H σ ρ) (h : okOwn ρ vs = true) : ∀ v ∈ vs, fr.pa v = none := fun v hv => by
  have h1 := List.all_eq_true.mp h v hv
  cases z : fr.pa v with
  | none => rfl
  | some p =>
    obtain ⟨k, c, e, _⟩ := S.pcs v p z
    rw [e] at h1
    cases h1
theorem Rel.wipe : ∀ {vs : List Nat}, Rel K ct fr F H σ ρ → (∀ v ∈ vs, fr.pa v = none) → Rel K ct fr F H (L2.wipe σ vs) (wipeR ρ vs)
  | [], S, _ => S
  | v :: vs, S, h => (Rel.wipe S fun x hx => h x (List.mem_cons_of_mem _ hx)).setU (h v List.mem_cons_self)
theorem restR_len (ρ0 ρ : List Sl) : ∀ vs : List Nat, (restR ρ0 ρ vs).length = ρ.length
  | [] => rfl
  | v :: vs => by unfold restR; rw [List.length_set, restR_len ρ0 ρ vs]
theorem restR_get (ρ0 ρ : List Sl) : ∀ (vs : List Nat) (i : Nat), (restR ρ0 ρ vs)[i]? = if i ∈ vs ∧ i < ρ.length then some ((ρ0[i]?).getD .un) else ρ[i]?
  | [], i => by simp [restR]
  | v :: vs, i => by
    have ih := restR_get ρ0 ρ vs i
    show ((restR ρ0 ρ vs).set v ((ρ0[v]?).getD .un))[i]? = _
    by_cases q : v = i
    · subst q
      by_cases l : v < ρ.length
      · rw [List.getElem?_set_self (by rw [restR_len]; exact l), if_pos ⟨List.mem_cons_self, l⟩]
      · rw [List.getElem?_eq_none (by rw [List.length_set, restR_len]; omega), if_neg (fun z => l z.2), List.getElem?_eq_none (by omega)]
    · rw [List.getElem?_set_ne q, ih]
      by_cases m : i ∈ vs
      · by_cases l : i < ρ.length
        · rw [if_pos ⟨m, l⟩, if_pos ⟨List.mem_cons_of_mem _ m, l⟩]
        · rw [if_neg (fun z => l z.2), if_neg (fun z => l z.2)]
      · rw [if_neg (fun z => m z.1), if_neg (fun z => (List.mem_cons.mp z.1).elim (fun w => q w.symm) m)]
/-- back from a block -/
theorem Rel.rest {vs : List Nat} {F0 H0 : Hp} {ρ0 : List Sl} (S0 : Rel K ct fr F0 H0 σ ρ0) (s : Same F0 F) (ok : okOwn ρ0 vs = true) (S : Rel K ct fr F H (L2.wipe σ vs) ρ) : Rel K ct fr F H σ (restR ρ0 ρ vs) := by
  have lr : ρ.length = ρ0.length := by rw [← S.len, wipe_length, S0.len]
  have out : ∀ {i : Nat}, i ∉ vs → (L2.wipe σ vs)[i]? = σ[i]? := fun {i} h => by rw [wipe_get, if_neg (fun z => h z.1)]
  have nc : ∀ {i : Nat} {k : CK} {c : CC}, (restR ρ0 ρ vs)[i]? = some (.cel k c) → i ∉ vs ∧ ρ[i]? = some (.cel k c) := fun {i k c} e => by
    rw [restR_get] at e
    split at e
    · rename_i h
      have h1 := List.all_eq_true.mp ok i h.1
      cases q : ρ0[i]? with
      | none =>
        rw [q] at e
        cases e
      | some x =>
        rw [q] at e h1
        have e : some x = some (Sl.cel k c) := e
        cases e
        cases h1
    · rename_i h
      refine ⟨fun m => h ⟨m, (List.getElem?_eq_some_iff.mp e).1⟩, e⟩
  refine ⟨by rw [restR_len, lr]; exact S0.len, S.fh, fun i s0 e => ?_, fun i j k c k' c' p e1 e2 h1 h2 => ?_, S.keep, S.fro, fun i p e => ?_⟩
  · rw [restR_get] at e
    split at e
    · rename_i h
      cases q : ρ0[i]? with
      | none =>
        rw [q] at e
        cases e
        have := List.getElem?_eq_none_iff.mp q
        omega
      | some x =>
        rw [q] at e
        have e : some x = some s0 := e
        cases e
        have h1 := List.all_eq_true.mp ok i h.1
        rw [q] at h1
        obtain ⟨o, g1, g2⟩ := S0.slot i _ q
        refine ⟨o, g1, ?_⟩
        cases s0 with
        | un => trivial
        | dat d => obtain ⟨v, a1, a2⟩ := g2; exact ⟨v, a1, a2.mono s⟩
        | cel k c => cases h1
        | exn c pl => cases h1
    · rename_i h
      have m : i ∉ vs := fun m => h ⟨m, (List.getElem?_eq_some_iff.mp e).1⟩
      obtain ⟨o, g1, g2⟩ := S.slot i s0 e
      rw [out m] at g1
      exact ⟨o, g1, g2⟩
  · obtain ⟨m1, f1⟩ := nc e1
    obtain ⟨m2, f2⟩ := nc e2
    rw [← out m1] at h1
    rw [← out m2] at h2
    exact S.dis i j _ _ _ _ p f1 f2 h1 h2
  · obtain ⟨k, c, h1, h2⟩ := S.pcs i p e
    refine ⟨k, c, ?_, h2⟩
    rw [restR_get, if_neg]
    · exact h1
    · intro z
      have := okOwn_np S0 ok i z.1
      rw [e] at this
      cases this
/-- the new list stands aside -/
def Fr.prot (fr : Fr) (D : Addr) (o : HO) : Fr := { fr with P := upd fr.P D o, F0 := fun b => if b = D then none else fr.F0 b }
theorem Rel.prot (S : Rel K ct fr F H σ ρ) {D : Addr} {o : HO} (h : H D = none) : Rel K ct (fr.prot D o) F (upd H D o) σ ρ := by
  have S1 := S.newC (o := o) h
  have fD := S.nn h
  have cD : ∀ {i : Nat} {k : CK} {c : CC} {p : Addr}, ρ[i]? = some (.cel k c) → σ[i]? = some (some (.ref p)) → p ≠ D := fun {i k c p} e1 e2 z => by
    obtain ⟨p', o', g1, g2⟩ := S.cell_at e1
    rw [g1] at e2
    cases e2
    rw [z, h] at g2
    cases g2
  refine ⟨S1.len, S1.fh, fun i s e => ?_, S1.dis, fun b u e => ?_, fun b hb h0 => ?_, S1.pcs⟩
  · obtain ⟨u, g1, g2⟩ := S1.slot i s e
    refine ⟨u, g1, ?_⟩
    cases s with
    | un => trivial
    | dat d => exact g2
    | cel k c =>
      obtain ⟨p, a1, a2, a3, a4, a5, a6⟩ := g2
      subst a1
      refine ⟨p, rfl, a2, ?_, a4, a5, a6⟩
      show upd fr.P D o p = none
      rw [upd_ne (cD e g1)]
      exact a3
    | exn c pl => exact g2
  · have e : upd fr.P D o b = some u := e
    by_cases q : b = D
    · subst q; rw [upd_same] at e; rw [upd_same]; exact e
    · rw [upd_ne q] at e; rw [upd_ne q]; exact S.keep b u e
  · by_cases q : b = D
    · subst q; exact fD
    · have h0 : (if b = D then none else fr.F0 b) = none := h0
      rw [if_neg q] at h0
      have hb : upd fr.P D o b ≠ none := hb
      rw [upd_ne q] at hb
      exact S.fro b hb h0
abbrev WF : WX := fun _ _ _ _ => False
end PL
end
section
namespace PL
open PySem PySem.Spec PyProof.Rows L2
variable {K : PySem.W.Frag} {ad : Cl → Addr} {ct : CT}
variable {fr : Fr} {F F' H H' : Hp} {σ : L2.St} {ρ : List Sl} {W : WX}
section
variable {X : Cx}
end
/-! ### new objects -/
theorem Rel.push (S : Rel K ct fr F H σ ρ) {p : Addr} {c : CC} (f : Fresh K ct.ad fr F H σ ρ p c) : Rel K ct fr F H (σ ++ [some (.ref p)]) (ρ ++ [.cel .own c]) := by
  obtain ⟨f1, f2, f3, f4, f5⟩ := f
  have l := S.len
  have old : ∀ {i : Nat} {s : Sl}, (ρ ++ [Sl.cel .own c])[i]? = some s → (i < ρ.length ∧ ρ[i]? = some s) ∨ (i = ρ.length ∧ s = .cel .own c) := fun {i s} e => by
    by_cases q : i < ρ.length
    · rw [List.getElem?_append_left q] at e; exact .inl ⟨q, e⟩
    · rw [List.getElem?_append_right (by omega)] at e
      have : i - ρ.length = 0 := by
        cases w : i - ρ.length with
        | zero => rfl
        | succ n => rw [w] at e; simp at e
      rw [this] at e
      cases e
      exact .inr ⟨by omega, rfl⟩
  have get : ∀ {i : Nat}, i < ρ.length → (σ ++ [some (V.ref p)])[i]? = σ[i]? := fun {i} q => List.getElem?_append_left (by omega)
  have last : (σ ++ [some (V.ref p)])[ρ.length]? = some (some (V.ref p)) := by rw [← l]; simp
  refine ⟨by simp [l], S.fh, fun i s e => ?_, fun i j k c1 k' c2 q e1 e2 h1 h2 => ?_, S.keep, S.fro, fun i q e => ?_⟩
  · rcases old e with ⟨q, e⟩ | ⟨rfl, rfl⟩
    · obtain ⟨o, g1, g2⟩ := S.slot i s e
      exact ⟨o, by rw [get q]; exact g1, g2⟩
    · exact ⟨_, last, p, rfl, f1, f2, (fun z => by cases z), (fun _ => f3), f4⟩
  · rcases old e1 with ⟨q1, e1⟩ | ⟨rfl, z1⟩
    · rw [get q1] at h1
      rcases old e2 with ⟨q2, e2⟩ | ⟨rfl, z2⟩
      · rw [get q2] at h2
        exact S.dis i j _ _ _ _ q e1 e2 h1 h2
      · rw [last] at h2
        cases h2
        exact absurd h1 (f5 _ _ _ e1)
    · rw [last] at h1
      cases h1
      rcases old e2 with ⟨q2, e2⟩ | ⟨rfl, z2⟩
      · rw [get q2] at h2
        exact absurd h2 (f5 _ _ _ e2)
      · rfl
  · obtain ⟨k, c1, h1, h2⟩ := S.pcs i q e
    exact ⟨k, c1, by rw [List.getElem?_append_left (List.getElem?_eq_some_iff.mp h1).1]; exact h1, h2⟩
theorem Rel.pop {o : Option V} (S : Rel K ct fr F H (σ ++ [o]) ρ) (np : fr.pa σ.length = none) : Rel K ct fr F H σ (ρ.take σ.length) := by
  have l := S.len
  rw [List.length_append] at l
  have l : σ.length + 1 = ρ.length := l
  have get : ∀ {i : Nat} {s : Sl}, (ρ.take σ.length)[i]? = some s → i < σ.length ∧ ρ[i]? = some s := fun {i s} e => by
    rw [List.getElem?_take] at e
    split at e
    · rename_i q; exact ⟨q, e⟩
    · cases e
  have gs : ∀ {i : Nat}, i < σ.length → (σ ++ [o])[i]? = σ[i]? := fun {i} q => List.getElem?_append_left q
  refine ⟨by rw [List.length_take]; omega, S.fh, fun i s e => ?_, fun i j k c1 k' c2 q e1 e2 h1 h2 => ?_, S.keep, S.fro, fun i q e => ?_⟩
  · obtain ⟨q, e⟩ := get e
    obtain ⟨u, g1, g2⟩ := S.slot i s e
    exact ⟨u, by rw [← gs q]; exact g1, g2⟩
  · obtain ⟨q1, e1⟩ := get e1
    obtain ⟨q2, e2⟩ := get e2
    exact S.dis i j _ _ _ _ q e1 e2 (by rw [gs q1]; exact h1) (by rw [gs q2]; exact h2)
  · obtain ⟨k, c1, h1, h2⟩ := S.pcs i q e
    have il := (List.getElem?_eq_some_iff.mp h1).1
    have : i ≠ σ.length := fun z => by rw [z, np] at e; cases e
    exact ⟨k, c1, by rw [List.getElem?_take, if_pos (by omega)]; exact h1, h2⟩
theorem Rel.popC {p : Addr} {c : CC} (S : Rel K ct fr F H (σ ++ [some (.ref p)]) ρ) (np : fr.pa σ.length = none) (e : ρ[σ.length]? = some (.cel .own c)) : Fresh K ct.ad fr F H σ (ρ.take σ.length) p c := by
  have last : (σ ++ [some (V.ref p)])[σ.length]? = some (some (V.ref p)) := by simp
  obtain ⟨u, g1, p', a1, a2, a3, a4, a5, a6⟩ := S.slot _ _ e
  rw [last] at g1
  subst a1
  cases g1
  refine ⟨a2, a3, a5 rfl, a6, fun i k c' e1 e2 => ?_⟩
  rw [List.getElem?_take] at e1
  split at e1
  · rename_i q
    have := S.dis i σ.length _ _ _ _ p e1 e (by rw [List.getElem?_append_left q]; exact e2) last
    omega
  · cases e1
/-- C(..): a new object, then its __init__ -/
def mkG (n : Nat) (G : Fn) (c : Cl) (ar : List Ar) : Ev := fun ρ => match callG n G (.c ρ.length :: ar) (ρ ++ [.cel .own (.obj c [])]) with
  | some (.ok (.d .non), ρ1) => (match ρ1[ρ.length]? with | some (.cel .own c') => some (.ok (.c c'), ρ1.take ρ.length) | _ => none)
  | some (.er c pl, ρ1) => some (.er c pl, ρ1.take ρ.length)
  | _ => none
def evMk (n : Nat) (G : Fn) (c : Cl) (as : List AE) (ds : List D := []) : Ev := bnd (evAs as) fun ar => mkG n G c (ar ++ ds.map .d)
def evMk0 (n : Nat) (G : Fn) (c : Cl) (as : List AE) (ds : List D := []) : Ev := bnd (evAs as) fun ar => noEr (mkG n G c (ar ++ ds.map .d))
theorem RAs.push {F : Hp} {σ : L2.St} {o : Option V} : ∀ {vs : List V} {as : List Ar}, RAs K ct.ad F σ vs as → RAs K ct.ad F (σ ++ [o]) vs as
  | _, _, .nil => .nil
  | _, .d _ :: _, .cons h r => .cons h (RAs.push r)
  | _, .c j :: _, .cons h r => .cons (by
      have h : σ[j]? = some (some _) := h
      show (σ ++ [o])[j]? = _
      rw [List.getElem?_append_left (List.getElem?_eq_some_iff.mp h).1]
      exact h) (RAs.push r)
theorem Tat.mk {n : Nat} {G : Fn} {c : Cl} {vs : List V} {ar : List Ar} {Q : VK} {E : XK} (h : Tat K ct (RV K ct.ad) W fr F ρ (mkG n G c ar) σ Q) (S : Rel K ct fr F H σ ρ) (r : RAs K ct.ad F σ vs ar) (hE : ∀ cls d H', W cls d σ H' → E cls d H')
    (x dx : Addr) (hx : H x = none) (hdx : H dx = none) (ne : dx ≠ x) : spP K ct.ad n G (.ref x :: vs) (upd (upd H dx (.own x)) x (.ins (ct.ad c) dx [])) (fun v H2 => v = .non ∧ Q (.ref x) H2) E := by
  have S1 := S.newC (o := .own x) hdx
  have hx1 : upd H dx (.own x) x = none := by rw [upd_ne ne.symm]; exact hx
  have S2 := S1.newC (o := .ins (ct.ad c) dx []) hx1
  have f2 := S1.fresh (o := .ins (ct.ad c) dx []) (c := .obj c []) hx1 ⟨dx, [], upd_same, .nil⟩
  have S3 := S2.push f2
  have l := S.len
  have np : fr.pa σ.length = none := by
    cases z : fr.pa σ.length with
    | none => rfl
    | some q =>
      obtain ⟨k1, c1, h1, h2⟩ := S.pcs _ q z
      have := (List.getElem?_eq_some_iff.mp h1).1
      omega
  have last : (σ ++ [some (V.ref x)])[ρ.length]? = some (some (V.ref x)) := by rw [← l]; simp
  refine Tat.call (W := fun cls d _ H' => W cls d σ H') (ar := .c ρ.length :: ar) (fr := fr) (F := F) (ρ := ρ ++ [.cel .own (.obj c [])]) (σ := σ ++ [some (.ref x)]) ?_ S3 (RAs.cons (show RA1 K ct.ad F (σ ++ [some (V.ref x)]) (.ref x) (.c ρ.length) from last) (RAs.push (o := some (V.ref x)) r)) hE
  obtain ⟨r0, ρ0, e, q⟩ := h
  unfold mkG at e
  cases ec : callG n G (.c ρ.length :: ar) (ρ ++ [.cel .own (.obj c [])]) with
  | none => rw [ec] at e; cases e
  | some y =>
    obtain ⟨ry, ρ1⟩ := y
    rw [ec] at e
    refine ⟨ry, ρ1, ec, ?_⟩
    cases ry with
    | er c' pl =>
      cases e
      intro d F' H' s' S' pr
      rw [← l] at q
      exact q d F' H' s' (S'.pop np) pr
    | ok rv =>
      cases rv with
      | c c' => cases e
      | d d =>
        cases d with
        | non =>
          intro v F' H' s' S' rr
          have rr : Rp K ct.ad F' v .non := rr
          cases rr
          refine ⟨rfl, ?_⟩
          have e : (match ρ1[ρ.length]? with | some (.cel .own c') => some (Ex.ok (Rv.c c'), ρ1.take ρ.length) | _ => none) = some (r0, ρ0) := e
          split at e
          · rename_i c' e1
            cases e
            rw [← l] at q e1
            exact q _ F' H' s' (S'.pop np) ⟨x, rfl, S'.popC np e1⟩
          · cases e
        | _ => cases e
section
variable {X : Cx} {CX : CXT} {k : Nat} {f : Addr} {fd : FuncData} {ps : List Str} {x : Str} {p pos : Pos} {e : Expr} {es : List Expr} {n : Nat} {G : Fn} {as : List AE} {dvs : List V} {dds : List D} {ds : List Value}
theorem pp_make (c : Cl) (M : Mk X.K (ct.ad c) f) (Fn : FnOk X.prog X.w X.K X.mg X.base CX k f fd ps (spP K ct.ad n G)) (hr : Room (k + 1) X.A) (hg : Gl X x) (hm : X.mg x = some (.ref (ct.ad c))) (hb : Binds X.K fd ps ds) (hd : Vals dvs ds) (hx : Passes CX X E0)
    (ha : PA X (e :: es) (TAr K ct W (evAs as))) (hdf : Dfs dvs dds) (hdb : (x == ("__debug__" : Str)) = false := by decide) (he : starEach (e :: es) X.env = (false, eval e X.env) :: starEach es X.env := by rfl) (hpl : (backTo pos (starEach es X.env)).any (·.1) = false := by rfl) :
    PE X (.Call (.Name x p) (e :: es) [] pos) (TP K ct W (evMk0 n G c as dds)) := (pe_make M Fn hr hg hm hb hd hx ha hdb he hpl).imp fun σ H Q h => by
  obtain ⟨fr, F, ρ, S, h⟩ := h
  refine Tat.bnd h S fun F1 H1 ρ1 vs ar s1 S1 r1 h => ?_
  intro x dx h1 h2 h3
  exact Tat.mk (W := WF) h.noEr S1 (RAs.dfs hdf r1) (fun _ _ _ z => z) x dx h1 h2 h3
theorem pp_makeS (c : Cl) (M : Mk X.K (ct.ad c) f) (Fn : FnOk X.prog X.w X.K X.mg X.base (L2.CX X.prog X.w) k f fd ps (spP K ct.ad n G)) (tk : Takes X W) (hr : Room (k + 1) X.A) (hg : Gl X x) (hm : X.mg x = some (.ref (ct.ad c))) (hb : Binds X.K fd ps ds) (hd : Vals dvs ds)
    (ha : PA X (e :: es) (TAr K ct W (evAs as))) (hdf : Dfs dvs dds) (hdb : (x == ("__debug__" : Str)) = false := by decide) (he : starEach (e :: es) X.env = (false, eval e X.env) :: starEach es X.env := by rfl) (hpl : (backTo pos (starEach es X.env)).any (·.1) = false := by rfl) :
    PE X (.Call (.Name x p) (e :: es) [] pos) (TP K ct W (evMk n G c as dds)) := (OW.pe_makeS M Fn hr hg hm hb hd (fun σ => passAt tk σ) ha hdb he hpl).imp fun σ H Q h => by
  obtain ⟨fr, F, ρ, S, h⟩ := h
  refine Tat.bnd h S fun F1 H1 ρ1 vs ar s1 S1 r1 h => ?_
  intro x dx h1 h2 h3
  exact Tat.mk h S1 (RAs.dfs hdf r1) (fun _ _ _ z => z) x dx h1 h2 h3
end
/-! ### lists that change -/
def modL (j : Nat) (f : List D → Option (D × List D)) : Ev := fun ρ => match ρ[j]? with
  | some (.cel k (.lst xs)) => (match f xs with | some (r, ys) => some (.ok (.d r), ρ.set j (.cel k (.lst ys))) | none => none)
  | _ => none
def isL (j : Nat) : Ev := fun ρ => match ρ[j]? with | some (.cel _ (.lst _)) => some (.ok (.d .non), ρ) | _ => none
/-- o.m(..) of a list in slot j -/
def evBmL (j : Nat) (f : List D → List D → Option (D × List D)) (es : List DE) : Ev := bnd (isL j) fun _ => bnd (evDs es) fun ds => modL j fun xs => f xs ds
theorem Tat.isL {δ γ : Type} {R' : Rel3 δ γ} {j : Nat} {k : Rv → M γ} {Q : δ → Hp → Prop} (h : Tat K ct R' W fr F ρ (PL.bnd (PL.isL j) k) σ Q) (S : Rel K ct fr F H σ ρ) :
    ∃ p vs, σ[j]? = some (some (.ref p)) ∧ H p = some (.lst vs) ∧ Tat K ct R' W fr F ρ (k (.d .non)) σ Q := by
  obtain ⟨r, ρ', e, q⟩ := h
  unfold PL.bnd PL.isL at e
  split at e
  · rename_i a ρ1 e1
    split at e1
    · rename_i k0 xs e2
      cases e1
      obtain ⟨o, g1, p, a1, a2, a3, a4, a5, vs, a6, a7⟩ := S.slot j _ e2
      subst a1
      exact ⟨p, vs, g1, a6, r, ρ', e, q⟩
    · cases e1
  · rename_i c pl ρ1 e1
    split at e1 <;> cases e1
  · cases e
variable (K ad) in
/-- what a list's method does -/
def OL (r : V → List V → Hp → VK → Prop) (f : List D → List D → Option (D × List D)) : Prop := ∀ {F H : Hp} {p : Addr} {vs us : List V} {xs ds ys : List D} {z : D} {Q : VK}, Same F H → H p = some (.lst vs) → Rps K ad F vs xs → Rps K ad F us ds → f xs ds = some (z, ys) →
  (∀ v vs', Rp K ad F v z → Rps K ad F vs' ys → Q v (upd H p (.lst vs'))) → r (.ref p) us H Q
theorem w_bmL {j : Nat} {r : V → List V → Hp → VK → Prop} {f : List D → List D → Option (D × List D)} {es : List DE} {Q : VK} (O : OL K ct.ad r f) (h : TP K ct W (evBmL j f es) σ H Q) : tBM K "list" r (tVar j) (TD K ct W (evDs es)) σ H Q := by
  obtain ⟨fr, F, ρ, S, h⟩ := h
  obtain ⟨p, vs, h1, h2, h⟩ := Tat.isL h S
  refine ⟨_, h1, .inl ⟨rfl, vs, SqL.of h2⟩, ?_⟩
  refine Tat.bnd h S fun F1 H1 ρ1 us ds s1 S1 r1 h => ?_
  obtain ⟨r0, ρ', e, q⟩ := h
  unfold modL at e
  split at e
  · rename_i k xs e2
    obtain ⟨o, g1, p', a1, a2, a3, a4, a5, vs', a6, a7⟩ := S1.slot j _ e2
    rw [h1] at g1
    subst a1
    cases g1
    split at e
    · rename_i z ys ef
      cases e
      exact O S1.fh a6 a7 r1 ef fun v vs2 rv rvs => q v F1 _ (Same.refl _) (S1.updC e2 h1 rfl ⟨vs2, upd_same, rvs⟩) rv
    · cases e
  · cases e
def fApp : List D → List D → Option (D × List D) | xs, [d] => if xs.length < 16777216 then some (.non, xs ++ [d]) else none | _, _ => none
def fIns : List D → List D → Option (D × List D) | xs, [.int i, d] => if xs.length < 16777216 ∧ 0 ≤ i ∧ i < 2 ^ 63 then some (.non, xs.take i.toNat ++ [d] ++ xs.drop i.toNat) else none | _, _ => none
def fExt : List D → List D → Option (D × List D) | xs, [.lst ys] => if xs.length + ys.length ≤ 16777216 then some (.non, xs ++ ys) else none | _, _ => none
def fPopAt : List D → List D → Option (D × List D) | xs, [.int i] => if -(2 ^ 63) ≤ i ∧ i < 2 ^ 63 then (seqIndex? i xs.length).bind fun k => (xs[k]?).map fun d => (d, xs.eraseIdx k) else none | _, _ => none
theorem ol_app : OL K ct.ad rAppend fApp := by
  intro F H p vs us xs ds ys z Q s h1 h2 h3 e q
  cases h3 with
  | nil => cases e
  | @cons u d us ds r rs =>
    cases rs with
    | cons _ _ => cases e
    | nil =>
      have e : (if xs.length < 16777216 then some (D.non, xs ++ [d]) else none) = some (z, ys) := e
      split at e
      · rename_i l
        cases e
        exact ⟨p, vs, u, rfl, rfl, h1, by rw [h2.len]; exact l, q _ _ .non (h2.snoc r)⟩
      · cases e
section
variable {X : Cx} {e : Expr} {es : List Expr} {r : List DE} {cpos apos p : Pos} {x : Str}
abbrev FewW (X : Cx) (q : Pos) (ws : List Expr) : Prop := ((backTo q (starEach ws X.env)).all (fun y => !y.1) && (backToKw q (keywordEach [] X.env)).all (fun y => y.1.isSome)
  && decide (ws.length + ([] : List Keyword).length + (if ([] : List Keyword).isEmpty then 0 else 1) < 30)) = true
theorem pp_bmL {id : String} {name : Str} {rr : V → List V → Hp → VK → Prop} {f : List D → List D → Option (D × List D)} (j : Nat) (eK : X.K = K) (O : OL K ct.ad rr f) (pa : PlainAttrs "list") (slot : Slot "list" name id) (hty : typeOf (.builtin id) = pure (.type "method_descriptor")) (hm : MtR X id rr) (ho : PE X (.Name x p) (tVar j)) (ha : PA X (e :: es) (TD K ct W (evDs r)))
    (hbase : attributeBase (.Name x p) name X.env (eval (.Name x p) X.env) = eval (.Name x p) X.env := by rfl)
    (hfew : FewW X cpos (e :: es) := by rfl) (hline : (apos.endLine == cpos.line) = true := by rfl)
    (hs : starEach (e :: es) X.env = (false, eval e X.env) :: starEach es X.env := by rfl) (hplain : (backTo cpos (starEach es X.env)).any (·.1) = false := by rfl) :
    PE X (.Call (.Attribute (.Name x p) name apos) (e :: es) [] cpos) (TP K ct W (evBmL j f r)) := by
  subst eK
  exact (pe_bm pa slot hty hm ho ha hbase hfew hline hs hplain).imp fun σ H Q => w_bmL O
end
/-- xs[i] = e, xs in slot j -/
def evSetI (j : Nat) (ie e : Ev) : M Fl := bnd (dat e) fun d => bnd (isL j) fun _ => bnd (dat ie) fun i => match i with
  | .int i => bnd (modL j fun xs => (ixN xs.length i).map fun n => (.non, xs.set n d)) fun _ => pur .nx
  | _ => fai
theorem Sat.isL {D : Ends} {j : Nat} {k : Rv → M Fl} (h : Sat K ct W D fr F ρ (PL.bnd (PL.isL j) k)) (S : Rel K ct fr F H σ ρ) :
    ∃ p vs, σ[j]? = some (some (.ref p)) ∧ H p = some (.lst vs) ∧ Sat K ct W D fr F ρ (k (.d .non)) := by
  obtain ⟨r, ρ', e, q⟩ := h
  unfold PL.bnd PL.isL at e
  split at e
  · rename_i a ρ1 e1
    split at e1
    · rename_i k0 xs e2
      cases e1
      obtain ⟨o, g1, p, a1, a2, a3, a4, a5, vs, a6, a7⟩ := S.slot j _ e2
      subst a1
      exact ⟨p, vs, g1, a6, r, ρ', e, q⟩
    · cases e1
  · rename_i c pl ρ1 e1
    split at e1 <;> cases e1
  · cases e
theorem w_setI {j : Nat} {ie e : Ev} {D : Ends} (h : TSt K ct W (evSetI j ie e) D σ H) : tAsg (TP K ct W e) (gSub (tVar j) (TP K ct W ie) rSetL) D σ H := by
  obtain ⟨fr, F, ρ, S, h⟩ := h
  refine h.dat S fun F1 H1 ρ1 v d s1 S1 r1 h => ?_
  obtain ⟨p, vs, h1, h2, h⟩ := Sat.isL h S1
  refine ⟨_, h1, ?_⟩
  refine h.dat S1 fun F2 H2 ρ2 u i s2 S2 r2 h => ?_
  cases i with
  | int i =>
    cases r2
    obtain ⟨r0, ρ', e, q⟩ := h
    have e : bnd (modL j fun xs => (ixN xs.length i).map fun n => (.non, xs.set n d)) (fun _ => pur Fl.nx) ρ2 = some (r0, ρ') := e
    unfold bnd modL at e
    cases e2 : ρ2[j]? with
    | none => rw [e2] at e; cases e
    | some x =>
      rw [e2] at e
      cases x with
      | cel k c =>
        cases c with
        | lst xs =>
          obtain ⟨o, g1, p', a1, a2, a3, a4, a5, vs', a6, a7⟩ := S2.slot j _ e2
          rw [h1] at g1
          subst a1
          cases g1
          dsimp only at e
          cases e3 : ixN xs.length i with
          | none => rw [e3] at e; cases e
          | some n =>
            rw [e3] at e
            cases e
            exact ⟨p, vs', i, n, rfl, rfl, a6, by rw [a7.len]; exact e3, q σ F2 _ (Same.refl _) (S2.updC e2 h1 rfl ⟨_, upd_same, a7.set (r1.mono s2) n⟩)⟩
        | _ => cases e
      | _ => cases e
  | _ => obtain ⟨_, _, e, _⟩ := h; cases e
theorem s_setI {X : Cx} {x : Str} {p pos pos' : Pos} {i e : Expr} {fi fe : Ev} (j : Nat) (ho : PE X (.Name x p) (tVar j)) (hi : PE X i (TP K ct W fi)) (he : PE X e (TP K ct W fe))
    (ha : ∀ z, assign (.Subscript (.Name x p) i pos) X.env z = (do
      let l ← holding [z] (eval (.Name x p) X.env); let n ← holding [z, l] (eval i X.env)
      standAt pos; holding [z, l, n] (setItem l n z); release [z, l, n] []) := by intro _; rfl)
    (hs : swapsWithSole [.Subscript (.Name x p) i pos] e pos'.line X.env = pure false := by rfl) (hw : swappedStores [.Subscript (.Name x p) i pos] e X.env = pure none := by rfl)
    (h1 : (assignEach [.Subscript (.Name x p) i pos] X.env).map (·.2) = [assign (.Subscript (.Name x p) i pos) X.env] := by rfl) : PS X (.Assign [.Subscript (.Name x p) i pos] e pos') (TSt K ct W (evSetI j fi fe)) := (ps_asg he (pg_sub ho hi set_list ha) hs hw h1).imp fun D σ H => w_setI
/-! ### fields of an object in the making -/
def putD (f : Str) (d : D) : List (Str × D) → List (Str × D)
  | [] => [(f, d)]
  | (g, x) :: r => if g = f then (g, d) :: r else (g, x) :: putD f d r
theorem put_zip {f : Str} {v : V} {d : D} (r : Rp K ct.ad F v d) : ∀ {kvs : List (Str × D)} {vs : List V}, Rps K ct.ad F vs (kvs.map (·.2)) → ∃ vs', putF f v ((kvs.map (·.1)).zip vs) = ((putD f d kvs).map (·.1)).zip vs' ∧ Rps K ct.ad F vs' ((putD f d kvs).map (·.2))
  | [], _, h => by cases h; exact ⟨[v], rfl, .cons r .nil⟩
  | (g, x) :: kvs, _, h => by
    cases h with
    | @cons u _ us _ hu hs =>
      obtain ⟨vs', e, rs⟩ := put_zip r hs
      by_cases q : g = f
      · refine ⟨v :: us, ?_, ?_⟩
        · simp [putD, putF, q]
        · simp only [putD, if_pos q, List.map_cons]; exact .cons r hs
      · refine ⟨u :: vs', ?_, ?_⟩
        · simp only [putD, putF, if_neg q, List.map_cons, List.zip_cons_cons]; rw [e]
        · simp only [putD, if_neg q, List.map_cons]; exact .cons hu rs
def evFldS (c : Cl) (j : Nat) (f : Str) (e : Ev) : M Fl := bnd (dat e) fun d => fun ρ => match ρ[j]? with
  | some (.cel k (.obj c' kvs)) => if c' = c ∧ kvs.length < 1000 then some (.ok .nx, ρ.set j (.cel k (.obj c' (putD f d kvs)))) else none
  | _ => none
theorem s_fld {X : Cx} {x f : Str} {p pos pos' : Pos} {e : Expr} {fe : Ev} (c : Cl) (j : Nat) (eK : X.K = K) (hc : Cls K (ct.ad c)) (hn : NoAttr K (ct.ad c) f) (ho : PE X (.Name x p) (tVar j)) (he : PE X e (TP K ct W fe))
    (hs : swapsWith e (some (.Attribute (.Name x p) f pos')) pos.line X.env = pure false := by rfl) : PS X (.Assign [.Attribute (.Name x p) f pos'] e pos) (TSt K ct W (evFldS c j f fe)) := by
  subst eK
  refine (ps_fld ho he hs).imp fun D σ H ⟨fr, F, ρ, S, h⟩ => ?_
  refine h.dat S fun F1 H1 ρ1 v d s1 S1 r1 h => ?_
  obtain ⟨r0, ρ', e, q⟩ := h
  have e9 : (match ρ1[j]? with | some (.cel k (.obj c' kvs)) => if c' = c ∧ kvs.length < 1000 then some (Ex.ok Fl.nx, ρ1.set j (.cel k (.obj c' (putD f d kvs)))) else none | _ => none) = some (r0, ρ') := e
  clear e
  split at e9
  · rename_i k c' kvs e2
    split at e9
    · rename_i w
      obtain ⟨rfl, w⟩ := w
      cases e9
      obtain ⟨o, g1, p', a1, a2, a3, a4, a5, dx, vs, a6, a7⟩ := S1.slot j _ e2
      subst a1
      obtain ⟨vs', e4, rs⟩ := put_zip (f := f) r1 a7
      refine ⟨_, g1, p', ct.ad c', dx, _, rfl, a6, hc, hn, ?_, ?_⟩
      · rw [List.length_zip, List.length_map]
        omega
      · rw [e4]
        exact q σ F1 _ (Same.refl _) (S1.updC e2 g1 rfl ⟨dx, vs', upd_same, rs⟩)
    · cases e9
  · cases e9
end PL
end
section
namespace PL
open PySem PySem.Spec PyProof.Rows L2
variable {K : PySem.W.Frag} {ad : Cl → Addr} {ct : CT}
variable {fr : Fr} {F F' H H' : Hp} {σ : L2.St} {ρ : List Sl} {W : WX}
/-! ### built-ins -/
def evB (g : List D → Option D) (es : List DE) : Ev := bnd (evDs es) fun ds => opt ((g ds).map Rv.d)
def evBc (g : List D → Option CC) (es : List DE) : Ev := bnd (evDs es) fun ds => opt ((g ds).map Rv.c)
variable (K ad) in
def OB (r : List V → Hp → VK → Prop) (g : List D → Option D) : Prop := ∀ {F H : Hp} {vs : List V} {ds : List D} {z : D} {Q : VK}, Same F H → Rps K ad F vs ds → g ds = some z → (∀ v, Rp K ad F v z → Q v H) → (∀ p us zs, z = .tup zs → Rps K ad F us zs → H p = none → Q (.ref p) (upd H p (.tup us))) → r vs H Q
variable (K ad) in
def OBc (r : List V → Hp → VK → Prop) (g : List D → Option CC) : Prop := ∀ {F H : Hp} {vs : List V} {ds : List D} {z : CC} {Q : VK}, Same F H → Rps K ad F vs ds → g ds = some z → (∀ p o, H p = none → (F p = none → CelR K ad F (upd H p o) p z) → Q (.ref p) (upd H p o)) → r vs H Q
theorem w_B {r : List V → Hp → VK → Prop} {g : List D → Option D} {es : List DE} {Q : VK} (O : OB K ct.ad r g) (h : TP K ct W (evB g es) σ H Q) : tCB r (TD K ct W (evDs es)) σ H Q := by
  obtain ⟨fr, F, ρ, S, h⟩ := h
  refine Tat.bnd h S fun F1 H1 ρ1 vs ds s1 S1 r1 h => ?_
  obtain ⟨z, e1, q⟩ := h.opt
  obtain ⟨y, e2, rfl⟩ := map_some e1
  refine O S1.fh r1 e2 (fun v rv => q v F1 H1 (Same.refl _) S1 rv) fun p us zs ez rs hp => ?_
  subst ez
  exact q _ (upd F1 p (.tup us)) _ (same_up (S1.nn hp)) (S1.newD hp) (Rp.tup (SqT.of upd_same) (rs.mono (same_up (S1.nn hp))))
theorem w_Bc {r : List V → Hp → VK → Prop} {g : List D → Option CC} {es : List DE} {Q : VK} (O : OBc K ct.ad r g) (h : TP K ct W (evBc g es) σ H Q) : tCB r (TD K ct W (evDs es)) σ H Q := by
  obtain ⟨fr, F, ρ, S, h⟩ := h
  refine Tat.bnd h S fun F1 H1 ρ1 vs ds s1 S1 r1 h => ?_
  obtain ⟨z, e1, q⟩ := h.opt
  obtain ⟨y, e2, rfl⟩ := map_some e1
  exact O S1.fh r1 e2 fun p o hp rc => q _ F1 _ (Same.refl _) (S1.newC hp) ⟨p, rfl, S1.fresh hp (rc (S1.nn hp))⟩
section
variable {X : Cx} {x : Str} {p pos : Pos} {e : Expr} {es : List Expr} {r : List V → Hp → VK → Prop} {as : List DE} {id T : String}
theorem pp_B {g : List D → Option D} (O : OB K ct.ad r g) (hc : CallR X (.builtin id) r) (hg : Gl X x) (hm : X.mg x = none) (hv : bootBuiltins x = some (.builtin id)) (ha : PA X (e :: es) (TD K ct W (evDs as))) (hn : x ≠ "__name__" := by decide) (hdb : (x == ("__debug__" : Str)) = false := by decide)
    (he : starEach (e :: es) X.env = (false, eval e X.env) :: starEach es X.env := by rfl) (hpl : (backTo pos (starEach es X.env)).any (·.1) = false := by rfl) : PE X (.Call (.Name x p) (e :: es) [] pos) (TP K ct W (evB g as)) := (pe_callB hc hg hm hv ha hn hdb he hpl).imp fun _ _ _ => w_B O
theorem pp_Bc {g : List D → Option CC} (O : OBc K ct.ad r g) (hc : CallR X (.builtin id) r) (hg : Gl X x) (hm : X.mg x = none) (hv : bootBuiltins x = some (.builtin id)) (ha : PA X (e :: es) (TD K ct W (evDs as))) (hn : x ≠ "__name__" := by decide) (hdb : (x == ("__debug__" : Str)) = false := by decide)
    (he : starEach (e :: es) X.env = (false, eval e X.env) :: starEach es X.env := by rfl) (hpl : (backTo pos (starEach es X.env)).any (·.1) = false := by rfl) : PE X (.Call (.Name x p) (e :: es) [] pos) (TP K ct W (evBc g as)) := (pe_callB hc hg hm hv ha hn hdb he hpl).imp fun _ _ _ => w_Bc O
theorem pp_T {g : List D → Option D} (O : OB K ct.ad r g) (hc : CallR X (.type T) r) (hg : Gl X x) (hm : X.mg x = none) (hv : bootBuiltins x = some (.type T)) (ha : PA X (e :: es) (TD K ct W (evDs as))) (hn : x ≠ "__name__" := by decide) (hdb : (x == ("__debug__" : Str)) = false := by decide)
    (he : starEach (e :: es) X.env = (false, eval e X.env) :: starEach es X.env := by rfl) (hpl : (backTo pos (starEach es X.env)).any (·.1) = false := by rfl) : PE X (.Call (.Name x p) (e :: es) [] pos) (TP K ct W (evB g as)) := (pe_callTy hc hg hm hv ha hn hdb he hpl).imp fun _ _ _ => w_B O
end
theorem or_call {X : Cx} {f : Value} {r r' : List V → Hp → VK → Prop} (h : CallR X f r) (h' : CallR X f r') : CallR X f (fun xs H Q => r xs H Q ∨ r' xs H Q) := fun pins s σ H xs us Q I rv q => q.elim (h pins s σ H xs us Q I rv) (h' pins s σ H xs us Q I rv)
/-! len -/
def gLen : List D → Option D
  | [.lst xs] => some (.int xs.length) | [.sq xs] => some (.int xs.length) | [.tup xs] => some (.int xs.length)
  | [.str z] => if z.length ≤ 16777216 then some (.int z.length) else none
  | _ => none
def rLenA (K : PySem.W.Frag) : List V → Hp → VK → Prop := fun xs H Q => OW.wLen K xs H Q ∨ OW.wLenS xs H Q
theorem c_lenA {X : Cx} (eK : X.K = K) : CallR X (.builtin "len") (rLenA K) := by subst eK; exact or_call OW.c_len OW.c_lenS
theorem ob_len : OB K ad (rLenA K) gLen := by
  intro F H vs ds z Q s r e q _
  cases r with
  | nil => cases e
  | @cons v d vs ds r rs =>
    cases rs with
    | cons _ _ => cases d <;> cases e
    | nil =>
      cases d <;> try cases e
      · rename_i t
        cases r
        have e : (if t.length ≤ 16777216 then some (D.int t.length) else none) = some z := e
        split at e
        · rename_i h; cases e; exact .inr ⟨t, rfl, h, q _ (.int _)⟩
        · cases e
      · cases r with | tup h k => exact .inl ⟨_, _, rfl, .inr (sameT s h), by rw [k.len]; exact q _ (.int _)⟩
      · cases r with | lst h k => exact .inl ⟨_, _, rfl, .inl (SqL.of (s _ _ h)), by rw [k.len]; exact q _ (.int _)⟩
      · cases r with | sq h k => exact .inl ⟨_, _, rfl, .inl (s.seq h), by rw [k.len]; exact q _ (.int _)⟩
/-! int, str, abs, min, max -/
def gInt : List D → Option D | [.int i] => some (.int i) | [.bl b] => some (.int (if b then 1 else 0)) | _ => none
theorem ob_int : OB K ad OW.wInt1 gInt := by
  intro F H vs ds z Q s r e q _
  cases r with
  | nil => cases e
  | @cons v d vs ds r rs =>
    cases rs with
    | cons _ _ => cases d <;> cases e
    | nil =>
      cases d <;> cases e
      · cases r; exact .inr ⟨_, rfl, q _ (.int _)⟩
      · cases r; exact .inl ⟨_, rfl, q _ (.int _)⟩
def gStr : List D → Option D | [.int i] => if i.natAbs.log2 < 1920 then some (.str (toString i)) else none | _ => none
def gAbs : List D → Option D | [.int i] => some (.int (if i < 0 then -i else i)) | _ => none
def gMax2 : List D → Option D | [.int i, .int j] => some (.int (max i j)) | _ => none
def gMin2 : List D → Option D | [.int i, .int j] => some (.int (min i j)) | _ => none
def gMax3 : List D → Option D | [.int i, .int j, .int k] => some (.int (max i (max j k))) | _ => none
def gMin3 : List D → Option D | [.int i, .int j, .int k] => some (.int (min i (min j k))) | _ => none
theorem two {F : Hp} {vs : List V} {i j : Int} (r : Rps K ad F vs [.int i, .int j]) : vs = [.int i, .int j] := r.ints (ns := [i, j])
theorem three {F : Hp} {vs : List V} {i j k : Int} (r : Rps K ad F vs [.int i, .int j, .int k]) : vs = [.int i, .int j, .int k] := r.ints (ns := [i, j, k])
/-- a list of ints as it lies -/
theorem Rp.lints {F H : Hp} {v : V} {d : D} {xs : List D} {ns : List Int} (s : Same F H) (r : Rp K ad F v d) (h : d.litems = some xs) (hn : D.ints xs = some ns) : ∃ p, v = .ref p ∧ SqL K H p (ns.map V.int) := by
  cases d <;> cases h
  · cases r with | lst h k => rw [D.ints_eq hn] at k; rw [k.ints] at h; exact ⟨_, rfl, SqL.of (s _ _ h)⟩
  · cases r with | sq h k => rw [D.ints_eq hn] at k; rw [k.ints] at h; exact ⟨_, rfl, s.seq h⟩
def lints (d : D) : Option (List Int) := d.litems.bind D.ints
def lbools (d : D) : Option (List Bool) := d.litems.bind D.bools
def maxI : List Int → Int | [] => 0 | n :: ns => ns.foldl max n
def minI : List Int → Int | [] => 0 | n :: ns => ns.foldl min n
def gMaxL : List D → Option D | [d] => (lints d).bind fun ns => if ns ≠ [] then some (.int (maxI ns)) else none | _ => none
def gMinL : List D → Option D | [d] => (lints d).bind fun ns => if ns ≠ [] then some (.int (minI ns)) else none | _ => none
def gSum : List D → Option D | [d] => (lints d).map fun ns => .int ns.sum | _ => none
def gAny : List D → Option D | [d] => (lbools d).map fun bs => .bl (bs.any id) | _ => none
def gAll : List D → Option D | [d] => (lbools d).map fun bs => .bl (bs.all id) | _ => none
theorem one_i {F : Hp} {vs : List V} {d : D} (r : Rps K ad F vs [d]) : ∃ v, vs = [v] ∧ Rp K ad F v d := by
  cases r with
  | cons r rs => cases rs; exact ⟨_, rfl, r⟩
/-! tuple, list -/
def gTup : List D → Option D | [.lst xs] => some (.tup xs) | [.sq xs] => some (.tup xs) | [.tup xs] => some (.tup xs) | _ => none
def rTupA (K : PySem.W.Frag) : List V → Hp → VK → Prop := fun xs H Q => ∃ p ys, xs = [.ref p] ∧ ((SqL K H p ys ∧ ∀ l, H l = none → Q (.ref l) (upd H l (.tup ys))) ∨ (SqT K H p ys ∧ Q (.ref p) H))
def gLst : List D → Option CC | [d] => d.items.map CC.lst | _ => none
def rLstA (K : PySem.W.Frag) : List V → Hp → VK → Prop := fun xs H Q => ∃ p ys, xs = [.ref p] ∧ (SqL K H p ys ∨ SqT K H p ys) ∧ ∀ l, H l = none → Q (.ref l) (upd H l (.lst ys))
/-! ### isinstance -/
inductive TyN | b (n : String) | o (c : Cl)
  deriving DecidableEq
def TyN.v (ad : Cl → Addr) : TyN → Value | .b n => .type n | .o c => .ref (ad c)
def D.tyN : D → Option TyN
  | .non => some (.b "NoneType") | .bl _ => some (.b "bool") | .int _ => some (.b "int") | .str _ => some (.b "str") | .tup _ => some (.b "tuple") | .lst _ => some (.b "list") | .sq _ => some (.b "list")
  | .obj c _ => some (.o c) | .dK _ _ => some (.b "dict") | .dT _ _ => some (.b "dict") | _ => none
structure ClsT (K : PySem.W.Frag) (C : Addr) : Prop where
  cl : Cls K C
  c1 : PySem.W.findIn K (.ref C) "__class__" = some (some (.builtin "object.__class__"))
  c2 : PySem.W.specialIn K (.builtin "object.__class__") "__get__" = some (some (.builtin "getset_descriptor.__get__"))
  c3 : PySem.W.takesIn K (.builtin "object.__class__") = some true
  c4 : PySem.W.mroIn K C (.type "object") = some true
variable (K ad) in
inductive IsiOk (u : Value) : List (TyN × Bool) → Prop
  | nil : IsiOk u []
  | b {n : String} {x : Bool} {r : List (TyN × Bool)} (h : PySem.W.kitOne K (.type n) u = some x) (t : IsiOk u r) : IsiOk u ((.b n, x) :: r)
  | o {c : Cl} {x : Bool} {r : List (TyN × Bool)} (h : PySem.W.kitOne K (.ref (ad c)) u = some x) (k : ClsT K (ad c)) (t : IsiOk u r) : IsiOk u ((.o c, x) :: r)
theorem IsiOk.get {u : Value} : ∀ {tbl : List (TyN × Bool)} {t : TyN} {x : Bool}, IsiOk K ad u tbl → tbl.lookup t = some x → PySem.W.kitOne K (t.v ad) u = some x ∧ ∀ c, t = .o c → ClsT K (ad c)
  | _, _, _, .nil, h =>
    by cases h
  | _, t, x, .b (n := n) (x := y) (r := r) h k, e => by
    rw [List.lookup_cons] at e
    cases q : t == TyN.b n with
    | true => rw [q] at e; have e : some y = some x := e; cases e; have := beq_iff_eq.mp q; subst this; exact ⟨h, fun c z => nomatch z⟩
    | false => rw [q] at e; exact k.get e
  | _, t, x, .o (c := c0) (x := y) (r := r) h k0 k, e => by
    rw [List.lookup_cons] at e
    cases q : t == TyN.o c0 with
    | true => rw [q] at e; have e : some y = some x := e; cases e; have := beq_iff_eq.mp q; subst this; exact ⟨h, fun c z => by cases z; exact k0⟩
    | false => rw [q] at e; exact k.get e
theorem Rp.ty {F H : Hp} {v : V} {d : D} {t : TyN} (s : Same F H) (r : Rp K ad F v d) (h : d.tyN = some t) (k : ∀ c, t = .o c → ClsT K (ad c)) : TyX K H v (t.v ad) := by
  cases r with
  | non => cases h; exact .base .non
  | bl b => cases h; exact .base (.bl b)
  | int i => cases h; exact .base (.int i)
  | str x => cases h; exact .base (.str x)
  | @tup p vs ds h1 k1 =>
    cases h
    rcases sameT s h1 with (h2 | ⟨o, h2⟩) | ⟨o, its, n, h2, h3, _⟩
    · exact .base (.tup h2)
    · exact .fTuple h2
    · exact .kTuple h2 h3
  | lst h1 k1 => cases h; exact .base (.lst (s _ _ h1))
  | @sq p vs ds h1 k1 =>
    cases h
    rcases s.seq h1 with (h2 | ⟨o, h2⟩) | ⟨o, its, n, h2, h3, _⟩
    · exact .base (.lst h2)
    · exact .base (.frz h2)
    · exact .kList h2 h3
  | @obj p dx c vs ds h1 _ _ => cases h; have T := k c rfl; exact .base (.ins (s _ _ h1) T.cl T.c1 T.c2 T.c3 T.c4)
  | cl c => cases h
  | dK h1 _ _ => cases h; exact .base (.dK (s _ _ h1))
  | dT h1 _ _ => cases h; exact .base (.dT (s _ _ h1))
def evIsi (tbl : List (TyN × Bool)) (e : Ev) : Ev := bnd (dat e) fun d => opt ((d.tyN.bind fun t => tbl.lookup t).map fun b => Rv.d (.bl b))
theorem pp_isi {X : Cx} {p pos : Pos} {e c : Expr} {fe : Ev} {cv : V} {u : Value} {tbl : List (TyN × Bool)} (eK : X.K = K) (T : IsiOk K ct.ad u tbl) (hcv : ClsV cv u) (hg : Gl X "isinstance") (hm : X.mg "isinstance" = none) (he : PE X e (TP K ct W fe)) (hc : PE X c (tC cv))
    (h1 : starEach (e :: [c]) X.env = (false, eval e X.env) :: starEach [c] X.env := by rfl) (h2 : starEach [c] X.env = (false, eval c X.env) :: starEach [] X.env := by rfl) (hpl : (backTo pos (starEach [c] X.env)).any (·.1) = false := by rfl) :
    PE X (.Call (.Name "isinstance" p) [e, c] [] pos) (TP K ct W (evIsi tbl fe)) := by
  subst eK
  refine (pe_callB (x := "isinstance") call_isi hg hm (by decide +kernel) (pa_cons he (pa_cons hc pa_nil h2) h1) (by decide) (by decide) h1 hpl).imp fun σ H Q h => ?_
  obtain ⟨fr, F, ρ, S, h⟩ := h
  refine Tat.dat h S fun F1 H1 ρ1 v d s1 S1 r1 h => ?_
  obtain ⟨z, e1, q⟩ := h.opt
  obtain ⟨b, e2, rfl⟩ := map_some e1
  cases e3 : d.tyN with
  | none => rw [e3] at e2; cases e2
  | some t =>
    rw [e3] at e2
    have e2 : tbl.lookup t = some b := e2
    obtain ⟨g1, g2⟩ := T.get e2
    exact ⟨v, cv, _, u, b, rfl, hcv, r1.ty S1.fh e3 g2, g1, q _ F1 H1 (Same.refl _) S1 (Rp.bl b)⟩
end PL
end
section
namespace PL
open PySem PySem.Spec PyProof.Rows L2
variable {K : PySem.W.Frag} {ad : Cl → Addr} {ct : CT}
variable {fr : Fr} {F F' H H' : Hp} {σ : L2.St} {ρ : List Sl} {W : WX}
/-! ### raise, try -/
def evRaise (c : Cl) : M Fl := fun ρ => some (.er c none, ρ)
def evRaise1 (c : Cl) (e : Ev) : M Fl := bnd e fun _ => evRaise c
theorem Sat.raise {D : Ends} {c : Cl} (h : Sat K ct W D fr F ρ (evRaise c)) (S : Rel K ct fr F H σ ρ) : W (.ref (ct.ad c)) none σ H := by
  obtain ⟨r, ρ', e, q⟩ := h
  cases e
  exact q σ none F H (Same.refl _) S rfl
theorem s_raise {X : Cx} {x m : Str} {j : Nat} {p p2 pos pos' : Pos} {bmB : List Value} {B newId initId : String} (c : Cl) (hc : X.calm = true) (tk : Takes X W) (Fx : ExcBaseFacts B newId initId bmB) (q : PySem.W.excIn X.K (ct.ad c) bmB newId = true) (gC : X.mg x = some (.ref (ct.ad c))) (kC : PySem.W.keepIn X.K (.ref (ct.ad c)) = true) (r : Raises X (.ref (ct.ad c))) (hg : Gl X x)
    (hdb : (x == ("__debug__" : Str)) = false := by decide) : PS X (.Raise (some (.Call (.Name x p) [.Constant (.str m) j p2] [] pos)) none pos') (TSt K ct W (evRaise c)) := (ps_raise hc tk (pmk_own Fx q gC kC r hg hdb)).imp fun D σ H ⟨fr, F, ρ, S, h⟩ => Sat.raise h S
theorem s_raise1 {X : Cx} {x : Str} {p pos pos' : Pos} {e : Expr} {fe : Ev} {bmB : List Value} {B newId initId : String} (c : Cl) (hc : X.calm = true) (tk : Takes X W) (Fx : ExcBaseFacts B newId initId bmB) (q : PySem.W.excIn X.K (ct.ad c) bmB newId = true) (gC : X.mg x = some (.ref (ct.ad c))) (kC : PySem.W.keepIn X.K (.ref (ct.ad c)) = true) (r : Raises X (.ref (ct.ad c))) (hg : Gl X x)
    (he : PE X e (TP K ct W fe)) (hs : starEach [e] X.env = (false, eval e X.env) :: starEach [] X.env := by rfl) (hdb : (x == ("__debug__" : Str)) = false := by decide) : PS X (.Raise (some (.Call (.Name x p) [e] [] pos)) none pos') (TSt K ct W (evRaise1 c fe)) := (ps_raise hc tk (SkE.pmk_own1 Fx q gC kC r hg he hs hdb)).imp fun D σ H ⟨fr, F, ρ, S, h⟩ =>
  Sat.bnd K ct h S (fun _ _ _ _ z => z) fun F1 H1 ρ1 v r s1 S1 r1 h => Sat.raise h S1
def noExn (ρ : List Sl) : Bool := ρ.all fun s => match s with | .exn _ _ => false | _ => true
theorem noExn_at (h : noExn ρ = true) {i : Nat} {c : Cl} {pl : Option D} : ρ[i]? ≠ some (.exn c pl) := fun e => by
  have := List.all_eq_true.mp h _ (List.mem_of_getElem? e)
  cases this
/-- another exception is held -/
theorem Rel.ek {ct' : CT} (S : Rel K ct fr F H σ ρ) (e : ct'.ad = ct.ad) (h : noExn ρ = true) : Rel K ct' fr F H σ ρ := by
  refine ⟨S.len, S.fh, fun i s z => ?_, S.dis, S.keep, S.fro, S.pcs⟩
  obtain ⟨o, g1, g2⟩ := S.slot i s z
  refine ⟨o, g1, ?_⟩
  cases s with
  | un => trivial
  | dat d => obtain ⟨v, a1, a2⟩ := g2; exact ⟨v, a1, by rw [e]; exact a2⟩
  | cel k c => obtain ⟨p, a1, a2, a3, a4, a5, a6⟩ := g2; exact ⟨p, a1, a2, a3, a4, a5, by rw [e]; exact a6⟩
  | exn c pl => exact absurd z (noExn_at h)
theorem Rel.setX (S : Rel K ct fr F H σ ρ) {i : Nat} {c : Cl} {pl : Option D} (h : ct.ecl = .ref (ct.ad c)) (r : PlR K ct.ad F c pl ct.ed) (np : fr.pa i = none) : Rel K ct fr F H (σ.set i (some (.ref ct.ea))) (ρ.set i (.exn c pl)) := by
  have dn : ∀ {j : Nat} {k : CK} {c1 : CC}, (ρ.set i (.exn c pl))[j]? = some (.cel k c1) → j ≠ i ∧ ρ[j]? = some (.cel k c1) := fun {j k c1} e => by
    by_cases q : i = j
    · subst q
      by_cases l : i < ρ.length
      · rw [List.getElem?_set_self l] at e; cases e
      · rw [List.getElem?_eq_none (by simp; omega)] at e; cases e
    · rw [List.getElem?_set_ne q] at e; exact ⟨fun z => q z.symm, e⟩
  refine ⟨by simp [S.len], S.fh, fun j s e => ?_, fun a b k c k' c' p e1 e2 e3 e4 => ?_, S.keep, S.fro, fun j p e => ?_⟩
  · by_cases q : i = j
    · subst q
      by_cases l : i < ρ.length
      · rw [List.getElem?_set_self l] at e
        cases e
        exact ⟨_, by rw [List.getElem?_set_self (by rw [S.len]; exact l)], rfl, h, r⟩
      · rw [List.getElem?_eq_none (by simp; omega)] at e; cases e
    · rw [List.getElem?_set_ne q] at e
      obtain ⟨o, h1, h2⟩ := S.slot j s e
      exact ⟨o, by rw [List.getElem?_set_ne q]; exact h1, h2⟩
  · obtain ⟨n1, f1⟩ := dn e1
    obtain ⟨n2, f2⟩ := dn e2
    rw [List.getElem?_set_ne (Ne.symm n1)] at e3
    rw [List.getElem?_set_ne (Ne.symm n2)] at e4
    exact S.dis a b _ _ _ _ p f1 f2 e3 e4
  · obtain ⟨k, c, h1, h2⟩ := S.pcs j p e
    refine ⟨k, c, ?_, h2⟩
    rw [List.getElem?_set_ne (fun q => by rw [q, e] at np; cases np)]
    exact h1
variable (K ad) in
inductive CatOk (cv : Value) : List (Cl × Bool) → Prop
  | nil : CatOk cv []
  | cons {c : Cl} {b : Bool} {r : List (Cl × Bool)} (h : PySem.W.exmOne K (.ref (ad c)) cv = some b) (t : CatOk cv r) : CatOk cv ((c, b) :: r)
theorem CatOk.get {cv : Value} : ∀ {cat : List (Cl × Bool)} {c : Cl} {b : Bool}, CatOk K ad cv cat → cat.lookup c = some b → PySem.W.exmOne K (.ref (ad c)) cv = some b
  | _, _, _, .nil, h => by cases h
  | _, c, b, .cons (c := c0) (b := b0) h t, e => by
    rw [List.lookup_cons] at e
    cases q : c == c0 with
    | true => rw [q] at e; have e : some b0 = some b := e; cases e; have := beq_iff_eq.mp q; subst this; exact h
    | false => rw [q] at e; exact t.get e
/-- what is behind a suite -/
def suiteO (s : M Fl) : M Fl := fun ρ => if noExn ρ then match s ρ with
  | some (.ok f, ρ2) => if noExn ρ2 then some (.ok f, ρ2) else none
  | _ => none else none
def suiteA (i : Nat) (c : Cl) (pl : Option D) (s : M Fl) : M Fl := fun ρ => if noExn ρ then (match ρ[i]? with
  | some (.cel .par _) => none
  | some _ => (match s (ρ.set i (.exn c pl)) with
    | some (.ok f, ρ2) => if noExn (ρ2.set i .un) then some (.ok f, ρ2.set i .un) else none
    | _ => none)
  | none => none) else none
def evTryO (body : M Fl) (cat : List (Cl × Bool)) (s : M Fl) : M Fl := fun ρ => match body ρ with
  | some (.er c pl, ρ1) => (match cat.lookup c with
    | some true => suiteO s ρ1
    | some false => some (.er c pl, ρ1)
    | none => none)
  | r => r
def evTryA (i : Nat) (body : M Fl) (cat : List (Cl × Bool)) (s : M Fl) : M Fl := fun ρ => match body ρ with
  | some (.er c pl, ρ1) => (match cat.lookup c with
    | some true => suiteA i c pl s ρ1
    | some false => some (.er c pl, ρ1)
    | none => none)
  | r => r
/-- the context of a suite -/
abbrev CT.su (ct : CT) (a : Addr) (cls : Value) (d : Option Addr) : CT := { ct with ea := a, ecl := cls, ed := d }
theorem w_tryO {cv : Value} {body s : M Fl} {cat : List (Cl × Bool)} {D : Ends} (C : CatOk K ct.ad cv cat) (h : TSt K ct W (evTryO body cat s) D σ H) : TSt K ct (wOnly K cv (fun a cls d => TSt K (ct.su a cls d) WF s) W D) body D σ H := by
  obtain ⟨fr, F, ρ, S, r, ρ', e, q⟩ := h
  refine ⟨fr, F, ρ, S, ?_⟩
  unfold evTryO at e
  cases eb : body ρ with
  | none => rw [eb] at e; cases e
  | some x =>
    obtain ⟨rb, ρ1⟩ := x
    rw [eb] at e
    refine ⟨rb, ρ1, eb, ?_⟩
    cases rb with
    | ok f => cases e; cases f <;> exact q
    | er c pl =>
      intro σ1 d F1 H1 s1 S1 pr
      have e : (match cat.lookup c with | some true => suiteO s ρ1 | some false => some (.er c pl, ρ1) | none => none) = some (r, ρ') := e
      cases ec : cat.lookup c with
      | none => rw [ec] at e; cases e
      | some b =>
        rw [ec] at e
        refine ⟨b, C.get ec, fun hb a ha => ?_, fun hb => ?_⟩
        · subst hb
          have e : suiteO s ρ1 = some (r, ρ') := e
          unfold suiteO at e
          split at e
          · rename_i n1
            split at e
            · rename_i f ρ2 es
              split at e
              · rename_i n2
                cases e
                refine ⟨fr, F1, ρ1, S1.ek rfl n1, .ok f, _, es, ?_⟩
                cases f with
                | nx => exact fun σ2 F2 H2 s2 S2 => q σ2 F2 H2 (s1.trans s2) (S2.ek rfl n2)
                | bk => exact fun σ2 F2 H2 s2 S2 => q σ2 F2 H2 (s1.trans s2) (S2.ek rfl n2)
                | ct => exact fun σ2 F2 H2 s2 S2 => q σ2 F2 H2 (s1.trans s2) (S2.ek rfl n2)
                | rt x => exact fun σ2 v F2 H2 s2 S2 rv => q σ2 v F2 H2 (s1.trans s2) (S2.ek rfl n2) rv
              · cases e
            · cases e
          · cases e
        · subst hb
          cases e
          exact q σ1 d F1 H1 s1 S1 pr
theorem w_tryA {i : Nat} {cv : Value} {body s : M Fl} {cat : List (Cl × Bool)} {D : Ends} (C : CatOk K ct.ad cv cat) (h : TSt K ct W (evTryA i body cat s) D σ H) : TSt K ct (wAs K cv i (fun a cls d => TSt K (ct.su a cls d) WF s) W D) body D σ H := by
  obtain ⟨fr, F, ρ, S, r, ρ', e, q⟩ := h
  refine ⟨fr, F, ρ, S, ?_⟩
  unfold evTryA at e
  cases eb : body ρ with
  | none => rw [eb] at e; cases e
  | some x =>
    obtain ⟨rb, ρ1⟩ := x
    rw [eb] at e
    refine ⟨rb, ρ1, eb, ?_⟩
    cases rb with
    | ok f => cases e; cases f <;> exact q
    | er c pl =>
      intro σ1 d F1 H1 s1 S1 pr
      have e : (match cat.lookup c with | some true => suiteA i c pl s ρ1 | some false => some (.er c pl, ρ1) | none => none) = some (r, ρ') := e
      cases ec : cat.lookup c with
      | none => rw [ec] at e; cases e
      | some b =>
        rw [ec] at e
        refine ⟨b, C.get ec, fun hb a ha => ?_, fun hb => ?_⟩
        · subst hb
          have e : suiteA i c pl s ρ1 = some (r, ρ') := e
          unfold suiteA at e
          split at e
          · rename_i n1
            split at e
            · cases e
            · rename_i sl hn hsl
              have np := S1.npar hsl hn
              split at e
              · rename_i f ρs es
                split at e
                · rename_i n2
                  cases e
                  have S3 : Rel K (ct.su a (.ref (ct.ad c)) d) fr F1 H1 σ1 ρ1 := S1.ek rfl n1
                  refine ⟨fr, F1, _, S3.setX rfl pr np, .ok f, _, es, ?_⟩
                  cases f with
                  | nx => exact fun σ2 F2 H2 s2 S2 => q _ F2 H2 (s1.trans s2) ((S2.setU np).ek rfl n2)
                  | bk => exact fun σ2 F2 H2 s2 S2 => q _ F2 H2 (s1.trans s2) ((S2.setU np).ek rfl n2)
                  | ct => exact fun σ2 F2 H2 s2 S2 => q _ F2 H2 (s1.trans s2) ((S2.setU np).ek rfl n2)
                  | rt x =>
                    intro σ2 v F2 H2 s2 S2 rv
                    refine q σ2 v F2 H2 (s1.trans s2) ((S2.unR np).ek rfl n2) ?_
                    cases x with
                    | d d => exact rv
                    | c c =>
                      obtain ⟨p, ev, f1, f2, f3, f4, f5⟩ := rv
                      refine ⟨p, ev, f1, f2, f3, f4, fun j k c' z1 z2 => ?_⟩
                      by_cases w : i = j
                      · subst w
                        rw [List.getElem?_set] at z1
                        split at z1
                        · split at z1 <;> cases z1
                        · rename_i w; exact absurd rfl w
                      · rw [List.getElem?_set_ne w] at z1; exact f5 j k c' z1 z2
                · cases e
              · cases e
            · cases e
          · cases e
        · subst hb
          cases e
          exact q σ1 d F1 H1 s1 S1 pr
section
variable {X : Cx} {x n : Str} {cv : Value} {body suite : List Stmt} {b₀ : Stmt} {np pos pos' : Pos} {mb ms : M Fl} {cat : List (Cl × Bool)}
theorem s_tryO (eK : X.K = K) (hs : X.stack = X.env :: X.outer) (hf : X.env.frame = some X.env.locals) (hc : Names X x cv) (tk : Takes X W) (C : CatOk K ct.ad cv cat)
    (hb : ∀ (W : WX) (pn : List (Addr × Obj)) (xe : Value → Shared → Prop), Takes (X.tr pn xe) W → PassesOwn (model X.prog X.w) X.A X.env xe → PSs (X.tr pn xe) body (TSt K ct W mb))
    (hsu : ∀ (a : Addr) (oe : Obj) (cls : Value) (d : Option Addr) (pn : List (Addr × Obj)), Zc cls d oe → (∃ vs, oe.data = .fields vs) → PSs (X.suite a ((a, oe) :: pn)) (b₀ :: suite) (TSt K (ct.su a cls d) WF ms)) :
    PS X (.Try body [.ExceptHandler (some (.Name x np)) none (b₀ :: suite) pos'] [] [] pos) (TSt K ct W (evTryO mb cat ms)) := by
  subst eK
  exact (ps_try_only hs hf hc tk hb hsu).imp fun D σ H => w_tryO C
theorem s_tryA {i : Nat} (eK : X.K = K) (hs : X.stack = X.env :: X.outer) (hf : X.env.frame = some X.env.locals) (hN : X.N.Nodup) (hi : X.N[i]? = some n) (hln : X.env.kindOf n = some .local) (hc : Names X x cv) (tk : Takes X W) (C : CatOk K ct.ad cv cat)
    (hb : ∀ (W : WX) (pn : List (Addr × Obj)) (xe : Value → Shared → Prop), Takes (X.tr pn xe) W → PassesOwn (model X.prog X.w) X.A X.env xe → PSs (X.tr pn xe) body (TSt K ct W mb))
    (hsu : ∀ (a : Addr) (oe : Obj) (cls : Value) (d : Option Addr) (pn : List (Addr × Obj)), Zc cls d oe → (∃ vs, oe.data = .fields vs) → PSs (X.suite a ((a, oe) :: pn)) (b₀ :: suite) (TSt K (ct.su a cls d) WF ms)) :
    PS X (.Try body [.ExceptHandler (some (.Name x np)) (some n) (b₀ :: suite) pos'] [] [] pos) (TSt K ct W (evTryA i mb cat ms)) := by
  subst eK
  exact (ps_try_as hs hf hN hi hln hc tk hb hsu).imp fun D σ H => w_tryA C
end
/-! in a suite: isinstance of the exception -/
def evIsE (i : Nat) (tbl : List (TyN × Bool)) : Ev := fun ρ => match ρ[i]? with
  | some (.exn c _) => (tbl.lookup (.o c)).map fun b => (.ok (.d (.bl b)), ρ)
  | _ => none
variable (K ad) in
inductive IseOk (u : Value) : List (TyN × Bool) → Prop
  | nil : IseOk u []
  | o {c : Cl} {x : Bool} {r : List (TyN × Bool)} (h : PySem.W.kitOne K (.ref (ad c)) u = some x) (k : ExcC K (ad c)) (t : IseOk u r) : IseOk u ((.o c, x) :: r)
theorem IseOk.get {u : Value} : ∀ {tbl : List (TyN × Bool)} {c : Cl} {x : Bool}, IseOk K ad u tbl → tbl.lookup (.o c) = some x → PySem.W.kitOne K (.ref (ad c)) u = some x ∧ ExcC K (ad c)
  | _, _, _, .nil, h => by cases h
  | _, c, x, .o (c := c0) (x := y) (r := r) h k0 k, e => by
    rw [List.lookup_cons] at e
    cases q : TyN.o c == TyN.o c0 with
    | true => rw [q] at e; have e : some y = some x := e; cases e; have := beq_iff_eq.mp q; cases this; exact ⟨h, k0⟩
    | false => rw [q] at e; exact k.get e
theorem pp_isE {X : Cx} {a : Addr} {oe : Obj} {cls : Value} {d : Option Addr} {pn : List (Addr × Obj)} {x : Str} {p p2 pos : Pos} {c : Expr} {cv : V} {u : Value} {tbl : List (TyN × Bool)} (i : Nat) (eK : X.K = K) (hz : Zc cls d oe) (hf : ∃ vs, oe.data = .fields vs) (T : IseOk K ct.ad u tbl) (hcv : ∀ w, RelV cv w → w = u) (hg : Gl (X.suite a ((a, oe) :: pn)) "isinstance") (hm : X.mg "isinstance" = none)
    (he : PE (X.suite a ((a, oe) :: pn)) (.Name x p2) (tVar i)) (hc : PE (X.suite a ((a, oe) :: pn)) c (tC cv))
    (h1 : starEach ((.Name x p2) :: [c]) X.env = (false, eval (.Name x p2) X.env) :: starEach [c] X.env := by rfl) (h2 : starEach [c] X.env = (false, eval c X.env) :: starEach [] X.env := by rfl) (hpl : (backTo pos (starEach [c] X.env)).any (·.1) = false := by rfl) :
    PE (X.suite a ((a, oe) :: pn)) (.Call (.Name "isinstance" p) [.Name x p2, c] [] pos) (TP K (ct.su a cls d) W (evIsE i tbl)) := by
  subst eK
  refine (pe_callB (x := "isinstance") (OW.c_isEE hz hf) hg hm (by decide +kernel) (pa_cons he (pa_cons hc pa_nil h2) h1) (by decide) (by decide) h1 hpl).imp fun σ H Q h => ?_
  obtain ⟨fr, F, ρ, S, r, ρ', e, q⟩ := h
  unfold evIsE at e
  split at e
  · rename_i c0 pl0 e1
    obtain ⟨b, e2, e3⟩ := map_some e
    cases e3
    obtain ⟨o, g1, g2, g3, g4⟩ := S.slot i _ e1
    subst g2
    obtain ⟨t1, t2⟩ := T.get e2
    refine ⟨_, g1, ct.ad c0, cv, u, b, rfl, g3, ?_, t2, hcv, t1, q _ F H (Same.refl _) S (Rp.bl b)⟩
    cases pl0 with
    | none => exact .inl g4
    | some d0 =>
      obtain ⟨dx, f', v, h1, h2, h3, h4⟩ := g4
      exact .inr ⟨dx, _, h1, S.fh _ _ h3⟩
  · cases e
/-! in a suite: the exception's field -/
def evXf (i : Nat) (c : Cl) : Ev := fun ρ => match ρ[i]? with
  | some (.exn c' (some d)) => if c' = c then some (.ok (.d d), ρ) else none
  | _ => none
/-! ### walks over own objects -/
def itO (c : Cl) (i : Nat) (e : Ev) : M (List D) := bnd (dat e) fun d => match d with
  | .obj c' xs => if c' = c then (match xs[i]? with | some (.tup ys) => pur ys | _ => fai) else fai
  | _ => fai
/-- an __iter__ that walks a field that is a tuple -/
def spIt (K : PySem.W.Frag) (C : Addr) (f : Str) (n : Nat) : Sp := fun vs H Q _ => ∃ (p dx t : Addr) (fs : List (Str × V)) (zs : List V), vs = [.ref p] ∧ H p = some (.ins C dx fs) ∧ fs.lookup f = some (.ref t) ∧ SqT K H t zs ∧ ∀ it, H it = none → n ≤ it → Q (.ref it) (upd H it (OW.TIt t it))
end PL
end
section
namespace PL
open PySem PySem.Spec PyProof.Rows L2
variable {K : PySem.W.Frag} {ad : Cl → Addr} {ct : CT}
variable {fr : Fr} {F F' H H' : Hp} {σ : L2.St} {ρ : List Sl} {W : WX}
/-! ### a list that may change is looked at -/
mutual
def D.lfree : D → Bool
  | .non => true | .bl _ => true | .int _ => true | .str _ => true | .cl _ => true
  | .tup xs => D.lfrees xs
  | .obj _ xs => D.lfrees xs
  | _ => false
def D.lfrees : List D → Bool
  | [] => true
  | x :: xs => x.lfree && D.lfrees xs
end
/-- a heap without p -/
def era (F : Hp) (p : Addr) : Hp := fun b => if b = p then none else F b
theorem era_ne {F : Hp} {p b : Addr} (h : b ≠ p) : era F p b = F b := if_neg h
theorem era_same {F : Hp} {p : Addr} : era F p p = none := if_pos rfl
mutual
theorem Rp.era {F : Hp} {p : Addr} {us : List V} (hp : F p = some (.lst us)) : ∀ {v : V} {d : D}, Rp K ad F v d → d.lfree = true → Rp K ad (PL.era F p) v d
  | _, _, .non, _ => .non
  | _, _, .bl b, _ => .bl b
  | _, _, .int i, _ => .int i
  | _, _, .str x, _ => .str x
  | _, _, .cl c, _ => .cl c
  | _, _, .tup (p := q) h r, e => .tup (by
      have ne : ∀ {o : HO}, F q = some o → (∀ xs, o ≠ .lst xs) → PL.era F p q = F q := fun {o} w z => era_ne fun y => by
        rw [y, hp] at w
        cases w
        exact z _ rfl
      (rcases h with (h | ⟨o, h⟩) | h)
      · exact .inl (.inl (by rw [ne h (fun _ z => by cases z)]; exact h))
      · exact .inl (.inr ⟨o, by rw [ne h (fun _ z => by cases z)]; exact h⟩)
      · exact .inr h) (Rps.era hp r e)
  | _, _, .obj (p := q) h l r, e => .obj (by rw [era_ne fun y => by rw [y, hp] at h; cases h]; exact h) l (Rps.era hp r e)
  | _, _, .lst _ _, e => by cases e
  | _, _, .sq _ _, e => by cases e
  | _, _, .dK _ _ _, e => by cases e
  | _, _, .dT _ _ _, e => by cases e
theorem Rps.era {F : Hp} {p : Addr} {us : List V} (hp : F p = some (.lst us)) : ∀ {vs : List V} {ds : List D}, Rps K ad F vs ds → D.lfrees ds = true → Rps K ad (PL.era F p) vs ds
  | _, _, .nil, _ => .nil
  | _, _, .cons (d := d) (ds := ds) h r, e => by
    have e : (d.lfree && D.lfrees ds) = true := e
    rw [Bool.and_eq_true] at e
    exact .cons (Rp.era hp h e.1) (Rps.era hp r e.2)
end
def Rv.lfree : Rv → Bool
  | .d x => x.lfree
  | .c (.lst xs) => D.lfrees xs
  | _ => false
/-- the slots as a look sees them -/
def lkS (j : Nat) (xs : List D) : Nat → List Sl → List Sl
  | _, [] => []
  | i, .cel _ _ :: r => (if i = j then .dat (.lst xs) else .un) :: lkS j xs (i + 1) r
  | i, s :: r => s :: lkS j xs (i + 1) r
theorem lkS_len (j : Nat) (xs : List D) : ∀ (i : Nat) (r : List Sl), (lkS j xs i r).length = r.length
  | _, [] => rfl
  | i, s :: r => by cases s <;> exact congrArg (· + 1) (lkS_len j xs (i + 1) r)
theorem lkS_get (j : Nat) (xs : List D) : ∀ (i : Nat) (r : List Sl) (n : Nat), (lkS j xs i r)[n]? = (r[n]?).map fun s => match s with | .cel _ _ => if i + n = j then .dat (.lst xs) else .un | s => s
  | _, [], _ => by simp [lkS]
  | i, s :: r, 0 => by cases s <;> simp [lkS]
  | i, s :: r, n + 1 => by
    have e : (lkS j xs i (s :: r))[n + 1]? = (lkS j xs (i + 1) r)[n]? := by cases s <;> rfl
    rw [e, lkS_get j xs (i + 1) r n, List.getElem?_cons_succ, show i + 1 + n = i + (n + 1) by omega]
def look {α : Type} (j : Nat) (ok : α → Bool) (m : M α) : M α := fun ρ => match ρ[j]? with
  | some (.cel _ (.lst xs)) => (match m (lkS j xs 0 ρ) with
    | some (.ok r, _) => if ok r then some (.ok r, ρ) else none
    | _ => none)
  | _ => none
def lkFr (fr : Fr) (F1 H : Hp) : Fr := ⟨fun b => if F1 b = none then H b else none, F1, fun _ => none⟩
theorem w_look {α β : Type} {R : Rel3 β α} {j : Nat} {good : α → Bool} {m : M α} {Q : β → Hp → Prop}
    (hR : ∀ {p : Addr} {us : List V} {F1 F' H' : Hp} {ρ' : List Sl} {v : β} {r : α}, F1 p = some (.lst us) → F p = none → H p = some (.lst us) → Rel K ct fr F H σ ρ → Rel K ct fr (era F' p) H' σ ρ → Same F1 F' → (∀ b, F1 b = none → H b ≠ none → b ≠ p) → (∀ b, b ≠ p → F1 b = F b) → good r = true → R (lkFr fr F1 H) F' H' σ ρ' v r → R fr (era F' p) H' σ ρ v r)
    (S : Rel K ct fr F H σ ρ) (h : Tat K ct R W fr F ρ (look j good m) σ Q) : T K ct R W m σ H Q := by
  obtain ⟨r, ρ', e, q⟩ := h
  unfold look at e
  split at e
  · rename_i k xs hj
    split at e
    · rename_i r0 ρ2 em
      split at e
      · rename_i hg
        cases e
        obtain ⟨o, g1, p, g2, g3, g4, g5, g6, us, g7, g8⟩ := S.slot j _ hj
        subst g2
        have s01 : Same F (upd F p (.lst us)) := fun b o z => by rw [upd_ne (ne_of_none z g3)]; exact z
        have S1 : Rel K ct (lkFr fr (upd F p (.lst us)) H) (upd F p (.lst us)) H σ (lkS j xs 0 ρ) := by
          have nc : ∀ {i : Nat} {k : CK} {c : CC}, (lkS j xs 0 ρ)[i]? ≠ some (.cel k c) := fun {i k c} z => by
            rw [lkS_get] at z
            cases y : ρ[i]? with
            | none => rw [y] at z; cases z
            | some s =>
              rw [y] at z
              cases s <;> simp at z
              split at z <;> cases z
          refine ⟨by rw [lkS_len]; exact S.len, fun b o z => ?_, fun i s z => ?_, fun a b k c k' c' p e1 _ _ _ => absurd e1 nc, fun b o z => ?_, fun b hb h0 => h0, fun i p z => by cases z⟩
          · by_cases y : b = p
            · subst y; rw [upd_same] at z; cases z; exact g7
            · rw [upd_ne y] at z; exact S.fh _ _ z
          · rw [lkS_get] at z
            cases y : ρ[i]? with
            | none => rw [y] at z; cases z
            | some s0 =>
              rw [y] at z
              obtain ⟨o, h1, h2⟩ := S.slot i _ y
              refine ⟨o, h1, ?_⟩
              cases s0 with
              | un => simp at z; subst z; trivial
              | dat d => simp at z; subst z; obtain ⟨v, a1, a2⟩ := h2; exact ⟨v, a1, a2.mono s01⟩
              | exn c pl => simp at z; subst z; exact ⟨h2.1, h2.2.1, h2.2.2.mono s01⟩
              | cel k c =>
                simp at z
                by_cases w : i = j
                · subst w
                  simp at z
                  subst z
                  rw [g1] at h1
                  cases h1
                  exact ⟨_, rfl, .lst upd_same (g8.mono s01)⟩
                · rw [if_neg w] at z
                  subst z
                  trivial
          · have z : (if upd F p (.lst us) b = none then H b else none) = some o := z
            split at z
            · exact z
            · cases z
        refine ⟨_, _, _, S1, .ok r0, ρ2, em, fun v F' H' s R1 rv => ?_⟩
        have P1 : ∀ b, upd F p (.lst us) b = none → (lkFr fr (upd F p (.lst us)) H).P b = H b := fun b z => if_pos z
        have hh : Same H H' := fun b o z => by
          cases y : upd F p (.lst us) b with
          | none => exact R1.keep b o (by rw [P1 b y]; exact z)
          | some o' =>
            have := S1.fh _ _ y
            rw [z] at this
            cases this
            exact R1.fh _ _ (s _ _ y)
        have al : Al F H (era F' p) H' := ⟨fun b o z => by rw [era_ne (ne_of_none z g3)]; exact s _ _ (s01 _ _ z), hh, fun b o z => by
          by_cases y : b = p
          · subst y; rw [era_same] at z; cases z
          · rw [era_ne y] at z; exact R1.fh _ _ z, fun b hb h0 => by
          by_cases y : b = p
          · subst y; exact era_same
          · rw [era_ne y]
            have z : upd F p (.lst us) b = none := by rw [upd_ne y]; exact h0
            exact R1.fro b (by rw [P1 b z]; exact hb) z⟩
        have S2 := S.al al
        exact q v _ H' al.1 S2 (hR upd_same g3 g7 S S2 s (fun b z _ y => by subst y; rw [upd_same] at z; cases z) (fun b y => upd_ne y) hg rv)
      · cases e
    · cases e
  · cases e
theorem look_v {X : Cx} {e : Expr} {m : Ev} (j : Nat) (h : PE X e (TP K ct W m)) : PE X e (TP K ct W (look j Rv.lfree m)) := h.imp fun σ H Q ⟨fr, F, ρ, S, h⟩ => by
  refine w_look (fun {p us F1 F' H' ρ' v r} h1 h2 h3 S S2 s nb eq hg rv => ?_) S h
  have hp : F' p = some (.lst us) := s _ _ h1
  cases r with
  | d d => exact Rp.era hp rv hg
  | c c =>
    cases c with
    | lst xs =>
      obtain ⟨p', e1, f1, f2, f3, ⟨vs, f4, f6⟩, f5⟩ := rv
      have f2 : (if F1 p' = none then H p' else none) = none := f2
      have n1 : F1 p' = none := by
        cases y : F1 p' with
        | none => rfl
        | some o => rw [s _ _ y] at f1; cases f1
      rw [if_pos n1] at f2
      have np : p' ≠ p := fun y => by rw [y, h3] at f2; cases f2
      refine ⟨p', e1, by rw [era_ne np]; exact f1, S.np f2, fun i z => ?_, ⟨vs, f4, Rps.era hp f6 hg⟩, fun i k c z1 z2 => ?_⟩
      · obtain ⟨k, c, y1, y2⟩ := S.pcs i _ z
        obtain ⟨o, a1, p2, a2, a3, a4, a5, a6, a7⟩ := S.slot i _ y1
        rw [a5 y2] at z
        cases z
        obtain ⟨o, ho⟩ := a7.at
        rw [f2] at ho
        cases ho
      · obtain ⟨p2, o, y1, y2⟩ := S.cell_at z1
        rw [y1] at z2
        cases z2
        rw [f2] at y2
        cases y2
    | _ => cases hg
/-! ### truth -/
def D.truth : D → Option Bool
  | .bl b => some b | .int i => some (decide (i ≠ 0)) | .non => some false
  | .lst xs => some (!xs.isEmpty) | .sq xs => some (!xs.isEmpty) | .tup xs => some (!xs.isEmpty)
  | _ => none
def tTr (m : Ev) : M Bool := bnd (dat m) fun d => opt d.truth
def vNoT (m : Ev) : Ev := bnd (dat m) fun d => opt (d.truth.map fun b => Rv.d (.bl (!b)))
/-! ### [::-1] -/
def evRev (m : Ev) : Ev := bnd (dat m) fun d => match d.litems with | some xs => pur (.c (.lst xs.reverse)) | none => fai
end PL
end
section
namespace PL
open PySem PySem.Spec PyProof.Rows L2
variable {K : PySem.W.Frag} {ad : Cl → Addr} {ct : CT}
variable {fr : Fr} {F F' H H' : Hp} {σ : L2.St} {ρ : List Sl} {W : WX}
/-! ### a op b op c op d as a test -/
def ch3 (g g' g'' : D → D → Option D) (a b c d : Ev) : M Bool := bnd (dat a) fun x => bnd (dat b) fun y => bnd (opt (g x y)) fun z => match z with
  | .bl true => bnd (dat c) fun u => bnd (opt (g' y u)) fun z2 => (match z2 with
    | .bl true => bnd (dat d) fun v => bnd (opt (g'' u v)) fun z3 => (match z3 with | .bl k => pur k | _ => fai)
    | .bl false => pur false
    | _ => fai)
  | .bl false => pur false
  | _ => fai
theorem pp_tch3 {X : Cx} {a b c d : Expr} {fa fb fc fd : Ev} {pos : Pos} {op op' op'' : CmpOp} {r r' r'' : R2} {g g' g'' : D → D → Option D} (h1 : OpR X (compareOp op) r) (h2 : OpR X (compareOp op') r') (h3 : OpR X (compareOp op'') r'') (O : O2 K ct.ad r g) (O' : O2 K ct.ad r' g') (O'' : O2 K ct.ad r'' g'')
    (ha : PE X a (TP K ct W fa)) (hb : PE X b (TP K ct W fb)) (hc : PE X c (TP K ct W fc)) (hd : PE X d (TP K ct W fd)) (hm : lastMarks [op, op', op''] [b, c, d] = false := by with_unfolding_all rfl) :
    PT X (.Compare a [op, op', op''] [b, c, d] pos) (TB K ct W (ch3 g g' g'' fa fb fc fd)) := (OW.pt_chain3 h1 h2 h3 ha hb hc hd hm).imp fun σ H Q ⟨fr, F, ρ, S, h⟩ => by
  refine Tat.dat h S fun F1 H1 ρ1 x dx s1 S1 r1 h => ?_
  refine Tat.dat h S1 fun F2 H2 ρ2 y dy s2 S2 r2 h => ?_
  obtain ⟨z, ez, h⟩ := h.optb
  refine O S2.fh (r1.mono s2) r2 ez fun v rv => ?_
  cases z with
  | bl k =>
    cases rv
    refine ⟨k, rfl, ?_⟩
    cases k with
    | false => exact Tat.ok (a := false) h _ F2 H2 (Same.refl _) S2 rfl
    | true =>
      refine Tat.dat h S2 fun F3 H3 ρ3 u du s3 S3 r3 h => ?_
      obtain ⟨z2, ez2, h⟩ := h.optb
      refine O' S3.fh (r2.mono s3) r3 ez2 fun v rv => ?_
      cases z2 with
      | bl k2 =>
        cases rv
        refine ⟨k2, rfl, ?_⟩
        cases k2 with
        | false => exact Tat.ok (a := false) h _ F3 H3 (Same.refl _) S3 rfl
        | true =>
          refine Tat.dat h S3 fun F4 H4 ρ4 w dw s4 S4 r4 h => ?_
          obtain ⟨z3, ez3, h⟩ := h.optb
          refine O'' S4.fh (r3.mono s4) r4 ez3 fun v rv => ?_
          cases z3 with
          | bl k3 => cases rv; exact ⟨k3, rfl, Tat.ok (a := k3) h _ F4 H4 (Same.refl _) S4 rfl⟩
          | _ => obtain ⟨_, _, e, _⟩ := h; cases e
      | _ => obtain ⟨_, _, e, _⟩ := h; cases e
  | _ => obtain ⟨_, _, e, _⟩ := h; cases e
/-! ### a class's constant -/
theorem pp_cval {X : Cx} {x f : Str} {p pos : Pos} {d : D} {v : V} (c : Cl) (hm : X.mg x = some (.ref (ct.ad c))) (r : ClX.CRead X.K (ct.ad c) (.type "type")) (hv : ∃ u, PySem.W.findCls X.K (.ref (ct.ad c)) (.type "type") f = some (.val u) ∧ RelV v u) (hg : Gl X x := by rfl) (hdb : (x == ("__debug__" : Str)) = false := by decide)
    (hb : attributeBase (.Name x p) f X.env (eval (.Name x p) X.env) = eval (.Name x p) X.env := by rfl) (hd : d.toV = some v := by rfl) : PE X (.Attribute (.Name x p) f pos) (TP K ct W (vD d)) :=
  (ClX.pe_cval (C8.pe_gc (v := .ref (ct.ad c)) hg ⟨_, hm, rfl⟩ hdb) hb).imp fun σ H Q ⟨fr, F, ρ, S, h⟩ => by
  obtain ⟨u, h1, h2⟩ := hv
  exact ⟨_, _, v, u, rfl, r, ⟨h1, h2⟩, Tat.ok (a := Rv.d d) h v F H (Same.refl _) S (D.toV_rp hd)⟩
/-! ### dicts that change, their keys ints or texts -/
def D.key : D → Option Key | .int i => some (.inl i) | .str s => some (.inr s) | _ => none
theorem Rp.key {F : Hp} {v : V} {d : D} {k : Key} (r : Rp K ad F v d) (h : d.key = some k) : v = kV k := by
  cases r <;> cases h <;> rfl
def dval (kvs : List (Key × D)) (k : Key) : Option D := (kvs.find? fun kv => decide (kv.1 = k)).map (·.2)
def dput (kvs : List (Key × D)) (k : Key) (d : D) : List (Key × D) := if (kvs.any fun kv => decide (kv.1 = k)) = true then kvs.map (fun kv => if kv.1 = k then (kv.1, d) else kv) else kvs ++ [(k, d)]
def isK (j : Nat) : Ev := fun ρ => match ρ[j]? with | some (.cel _ (.dK _)) => some (.ok (.d .non), ρ) | _ => none
def getK (j : Nat) (f : List (Key × D) → Option D) : Ev := fun ρ => match ρ[j]? with
  | some (.cel _ (.dK kvs)) => (f kvs).map fun d => (.ok (.d d), ρ)
  | _ => none
/-- d[k], d in slot j -/
def evDGet (j : Nat) (ke : Ev) : Ev := bnd (isK j) fun _ => bnd (dat ke) fun k => getK j fun kvs => k.key.bind (dval kvs)
/-- d.get(k, x) -/
def evDGet2 (j : Nat) (ke de : Ev) : Ev := bnd (isK j) fun _ => bnd (dat ke) fun k => bnd (dat de) fun d => getK j fun kvs => k.key.map fun k => (dval kvs k).getD d
/-- k in d -/
def evDIn (j : Nat) (ke : Ev) : Ev := bnd (dat ke) fun k => getK j fun kvs => k.key.map fun k => .bl (dval kvs k).isSome
/-- d[k] = e -/
def evDPut (j : Nat) (ke e : Ev) : M Fl := bnd (dat e) fun d => bnd (isK j) fun _ => bnd (dat ke) fun k => fun ρ => match ρ[j]? with
  | some (.cel c (.dK kvs)) => (match k.key with
    | some k => if kvs.length < 16777216 then some (.ok .nx, ρ.set j (.cel c (.dK (dput kvs k d)))) else none
    | none => none)
  | _ => none
theorem isK_eq {j : Nat} {r : Ex Rv} {ρ' : List Sl} (e : isK j ρ = some (r, ρ')) (S : Rel K ct fr F H σ ρ) : ∃ p kvs, r = .ok (.d .non) ∧ ρ' = ρ ∧ σ[j]? = some (some (.ref p)) ∧ H p = some (.dK kvs) := by
  unfold isK at e
  split at e
  · rename_i k kvs h
    cases e
    obtain ⟨o, g1, p, a1, a2, a3, a4, a5, vs, a6, a7⟩ := S.slot j _ h
    subst a1
    exact ⟨p, _, rfl, rfl, g1, a6⟩
  · cases e
theorem Tat.isK {δ γ : Type} {R' : Rel3 δ γ} {j : Nat} {k : Rv → M γ} {Q : δ → Hp → Prop} (h : Tat K ct R' W fr F ρ (PL.bnd (PL.isK j) k) σ Q) (S : Rel K ct fr F H σ ρ) :
    ∃ p kvs, σ[j]? = some (some (.ref p)) ∧ H p = some (.dK kvs) ∧ Tat K ct R' W fr F ρ (k (.d .non)) σ Q := by
  obtain ⟨r, ρ', e, q⟩ := h
  unfold PL.bnd at e
  cases em : PL.isK j ρ with
  | none => rw [em] at e; cases e
  | some x =>
    obtain ⟨r1, ρ1⟩ := x
    rw [em] at e
    obtain ⟨p, kvs, rfl, rfl, g1, g2⟩ := isK_eq em S
    exact ⟨p, kvs, g1, g2, r, ρ', e, q⟩
theorem Sat.isK {D : Ends} {j : Nat} {k : Rv → M Fl} (h : Sat K ct W D fr F ρ (PL.bnd (PL.isK j) k)) (S : Rel K ct fr F H σ ρ) :
    ∃ p kvs, σ[j]? = some (some (.ref p)) ∧ H p = some (.dK kvs) ∧ Sat K ct W D fr F ρ (k (.d .non)) := by
  obtain ⟨r, ρ', e, q⟩ := h
  unfold PL.bnd at e
  cases em : PL.isK j ρ with
  | none => rw [em] at e; cases e
  | some x =>
    obtain ⟨r1, ρ1⟩ := x
    rw [em] at e
    obtain ⟨p, kvs, rfl, rfl, g1, g2⟩ := isK_eq em S
    exact ⟨p, kvs, g1, g2, r, ρ', e, q⟩
theorem Tat.getK {j : Nat} {f : List (Key × D) → Option D} {Q : VK} (h : Tat K ct (RV K ct.ad) W fr F ρ (PL.getK j f) σ Q) (S : Rel K ct fr F H σ ρ) {p : Addr} (hp : σ[j]? = some (some (.ref p))) :
    ∃ kvs vs d, H p = some (.dK ((kvs.map (·.1)).zip vs)) ∧ Rps K ct.ad F vs (kvs.map (·.2)) ∧ f kvs = some d ∧ ∀ v, Rp K ct.ad F v d → Q v H := by
  obtain ⟨r, ρ', e, q⟩ := h
  unfold PL.getK at e
  split at e
  · rename_i k kvs h
    obtain ⟨d, e1, e2⟩ := map_some e
    cases e2
    obtain ⟨o, g1, p', a1, a2, a3, a4, a5, vs, a6, a7⟩ := S.slot j _ h
    subst a1
    rw [hp] at g1
    cases g1
    exact ⟨kvs, vs, d, a6, a7, e1, fun v r => q v F H (Same.refl _) S r⟩
  · cases e
section
variable {X : Cx} {x : Str} {p pos : Pos} {ke de : Expr} {fk fd : Ev}
/-- sorted(d, reverse=True), the keys ints -/
def keysI : List (Key × D) → Option (List Int)
  | [] => some []
  | (.inl i, _) :: r => (keysI r).map (i :: ·)
  | _ => none
def insG (x : Int) : List Int → List Int
  | [] => [x]
  | y :: r => if y ≤ x then x :: y :: r else y :: insG x r
/-- from the greatest down -/
def down : List Int → List Int
  | [] => []
  | x :: r => insG x (down r)
def evSortDR (j : Nat) : Ev := fun ρ => match ρ[j]? with
  | some (.cel _ (.dK kvs)) => (keysI kvs).map fun ks => (.ok (.c (.lst ((down ks).map D.int))), ρ)
  | _ => none
theorem Rps.ofInts {F : Hp} : ∀ ns : List Int, Rps K ad F (ns.map V.int) (ns.map D.int)
  | [] => .nil
  | n :: ns => .cons (.int n) (Rps.ofInts ns)
end
/-! ### max(.., default=n) -/
def gMaxD (n : Int) : List D → Option D | [d] => (lints d).map fun ns => .int (OW.maxL n ns) | _ => none
def evMaxD (es : List DE) (de : Ev) : Ev := bnd (evDs es) fun ds => bnd (dat de) fun d => match d with | .int n => opt ((gMaxD n ds).map Rv.d) | _ => fai
end PL
namespace PL
open PySem PySem.Spec PyProof.Rows L2
end PL
end
section
namespace PL
open PySem PySem.Spec PyProof.Rows L2
variable {K : PySem.W.Frag} {ad : Cl → Addr} {ct : CT}
variable {fr : Fr} {F F' H H' : Hp} {σ : L2.St} {ρ : List Sl} {W : WX}
/-! ### x in y -/
def dInB : D → D → Option Bool
  | .int i, e => (e.items.bind D.ints).map fun ns => ns.contains i
  | .str s, .str z => match s.cps.toList with | [c] => some (decide (c ∈ z.cps.toList)) | _ => none
  | .str s, e => (e.items.bind D.strs).map fun ys => ys.contains s
  | _, _ => none
def dIn (d e : D) : Option D := (dInB d e).map .bl
def dNotIn (d e : D) : Option D := (dInB d e).map fun b => .bl (!b)
def rSign (neg : Bool) : R2 := fun x y H Q => ∃ (c : Nat) (z : Str), x = .str ⟨#[c]⟩ ∧ y = .str z ∧ Q (.bl (if neg then !decide (c ∈ z.cps.toList) else decide (c ∈ z.cps.toList))) H
def rInB (K : PySem.W.Frag) (neg : Bool) : R2 := fun x y H Q => rIn K neg x y H Q ∨ rSign neg x y H Q
end PL
namespace PL
open PySem PySem.Spec PyProof.Rows L2
/-- what the top asks of the law's def -/
def spLaw (K : PySem.W.Frag) : Sp := fun vs H Q _ => ∃ (a : Addr) (ns : List Int), vs = [.ref a] ∧ SqL K H a (ns.map V.int) ∧ ns.length ≤ 63 ∧ ∀ H', Q (.bl true) H'
theorem spLaw_of {K : PySem.W.Frag} {ad : Cl → Addr} {G : Fn} (h : ∀ ns : List Int, ns.length ≤ 63 → ∃ ρ, G [.dat (.sq (ns.map D.int))] = some (.ok (.d (.bl true)), ρ)) : ∀ vs H Q E, spLaw K vs H Q E → spP K ad 1 G vs H Q E := by
  rintro vs H Q E ⟨a, ns, rfl, hs, hl, q⟩
  obtain ⟨ρ, e⟩ := h ns hl
  have S : Rel K (cx ad) ⟨H, H, fun _ => none⟩ H H ([V.ref a].map some) [.dat (.sq (ns.map D.int))] := by
    refine ⟨rfl, Same.refl _, fun i s z => ?_, fun i j k c k' c' p z => ?_, Same.refl _, fun b _ z => z, fun i p z => by cases z⟩
    · cases i with
      | zero =>
        cases z
        exact ⟨_, rfl, _, rfl, .sq hs (Rps.ofInts ns)⟩
      | succ i => simp at z
    · cases i with
      | zero => cases z
      | succ i => simp at z
  refine ⟨rfl, _, H, _, S, fun _ _ => rfl, rfl, _, ρ, e, fun v F' H' s S' r => ?_⟩
  cases r
  exact q H'
end PL
end
section
namespace PL
open PySem PySem.Spec PyProof.Rows L2
variable {K : PySem.W.Frag} {ad : Cl → Addr} {ct : CT}
variable {fr : Fr} {F F' H H' : Hp} {σ : L2.St} {ρ : List Sl} {W : WX}
/-! ### a new cell handed straight to a def -/
/-- the frame that holds fast what stands at p -/
def Fr.hold (fr : Fr) (p : Addr) (o : HO) : Fr := { P := fun b => if b = p then some o else fr.P b, F0 := fun b => if b = p then none else fr.F0 b, pa := fr.pa }
theorem SlR.refr {fr fr' : Fr} {i : Nat} {o : Option V} {s : Sl} (h : SlR K ct fr F H i o s) (ep : fr'.pa = fr.pa) (eP : ∀ p, o = some (.ref p) → (∃ k c, s = .cel k c) → fr.P p = none → fr'.P p = none) : SlR K ct fr' F H i o s := by
  cases s with
  | un => exact h
  | dat d => exact h
  | cel k c =>
    obtain ⟨p, e, h1, h2, h3, h4, h5⟩ := h
    exact ⟨p, e, h1, eP p e ⟨k, c, rfl⟩ h2, by rw [ep]; exact h3, by rw [ep]; exact h4, h5⟩
  | exn c pl => exact h
theorem Rel.hold {p : Addr} {c : CC} {o : HO} (S : Rel K ct fr F H σ ρ) (f : Fresh K ct.ad fr F H σ ρ p c) (ho : H p = some o) : Rel K ct (fr.hold p o) F H σ ρ := by
  obtain ⟨f1, f2, f3, f4, f5⟩ := f
  refine ⟨S.len, S.fh, fun i s e => ?_, S.dis, fun b x e => ?_, fun b hb h0 => ?_, S.pcs⟩
  · obtain ⟨u, e1, r⟩ := S.slot i s e
    refine ⟨u, e1, SlR.refr r rfl fun q eq ⟨k, c', es⟩ hq => ?_⟩
    subst es
    have ne : q ≠ p := fun z => f5 i k c' e (by rw [e1, eq, z])
    show (if q = p then some o else fr.P q) = none
    rw [if_neg ne]; exact hq
  · have e : (if b = p then some o else fr.P b) = some x := e
    by_cases z : b = p
    · rw [if_pos z] at e; cases e; rw [z]; exact ho
    · rw [if_neg z] at e; exact S.keep b x e
  · by_cases z : b = p
    · rw [z]; exact f1
    · refine S.fro b (fun y => hb ?_) ?_
      · show (if b = p then some o else fr.P b) = none
        rw [if_neg z]; exact y
      · have h0 : (if b = p then none else fr.F0 b) = none := h0
        rw [if_neg z] at h0; exact h0
theorem Rel.unhold {p : Addr} {o : HO} (S : Rel K ct (fr.hold p o) F H σ ρ) (hp : fr.P p = none) : Rel K ct fr F H σ ρ := by
  refine ⟨S.len, S.fh, fun i s e => ?_, S.dis, fun b x e => ?_, fun b hb h0 => ?_, S.pcs⟩
  · obtain ⟨u, e1, r⟩ := S.slot i s e
    refine ⟨u, e1, SlR.refr r rfl fun q eq ⟨k, c', es⟩ hq => ?_⟩
    have hq : (if q = p then some o else fr.P q) = none := hq
    by_cases z : q = p
    · rw [if_pos z] at hq; cases hq
    · rw [if_neg z] at hq; exact hq
  · have z : b ≠ p := fun z => by rw [z, hp] at e; cases e
    refine S.keep b x ?_
    show (if b = p then some o else fr.P b) = some x
    rw [if_neg z]; exact e
  · have z : b ≠ p := fun z => hb (by rw [z]; exact hp)
    refine S.fro b (fun y => hb ?_) ?_
    · have y : (if b = p then some o else fr.P b) = none := y
      rw [if_neg z] at y; exact y
    · show (if b = p then none else fr.F0 b) = none
      rw [if_neg z]; exact h0
theorem Rel.heldF {p : Addr} {c : CC} {o : HO} {F0 H0 : Hp} {σ0 : L2.St} {ρ0 : List Sl} (S : Rel K ct (fr.hold p o) F H σ ρ) (f : Fresh K ct.ad fr F0 H0 σ0 ρ0 p c) (ho : H0 p = some o) (s : Same F0 F) : Fresh K ct.ad fr F H σ ρ p c := by
  obtain ⟨f1, f2, f3, f4, f5⟩ := f
  have at_p : (fr.hold p o).P p = some o := if_pos rfl
  refine ⟨S.fro p (by rw [at_p]; simp) (if_pos rfl), f2, f3, f4.keep s (by rw [ho]; exact S.keep p o at_p), fun i k c' e z => ?_⟩
  obtain ⟨u, e1, r⟩ := S.slot i _ e
  obtain ⟨q, eq, _, h2, _⟩ := r
  rw [e1, eq] at z
  injection z with z; injection z with z; injection z with z
  rw [z, at_p] at h2; cases h2
theorem Fresh.pop {p q : Addr} {c : CC} (h : Fresh K ct.ad fr F H (σ ++ [some (.ref q)]) ρ p c) : Fresh K ct.ad fr F H σ (ρ.take σ.length) p c := by
  obtain ⟨f1, f2, f3, f4, f5⟩ := h
  refine ⟨f1, f2, f3, f4, fun i k c' e z => ?_⟩
  rw [List.getElem?_take] at e
  split at e
  · rename_i l
    exact f5 i k c' e (by rw [List.getElem?_append_left l]; exact z)
  · cases e
/-- .. the call itself: the cell stands behind the slots while it runs -/
def callN (n : Nat) (G : Fn) (c : CC) (ar : List Ar) : Ev := fun ρ => match callG n G (.c ρ.length :: ar) (ρ ++ [.cel .own c]) with
  | some (r, ρ1) => some (r, ρ1.take ρ.length)
  | none => none
def evCallN (n : Nat) (G : Fn) (m : Ev) (as : List AE) (ds : List D := []) : Ev := bnd m fun r => match r with
  | .c c => bnd (evAs as) fun ar => callN n G c (ar ++ ds.map .d)
  | .d _ => fai
def evCallN0 (n : Nat) (G : Fn) (m : Ev) (as : List AE) (ds : List D := []) : Ev := bnd m fun r => match r with
  | .c c => bnd (evAs as) fun ar => noEr (callN n G c (ar ++ ds.map .d))
  | .d _ => fai
theorem Tat.callN {n : Nat} {G : Fn} {p : Addr} {c : CC} {vs : List V} {ar : List Ar} {Q : VK} {E : XK} (h : Tat K ct (RV K ct.ad) W fr F ρ (PL.callN n G c ar) σ Q) (S : Rel K ct fr F H σ ρ) (f : Fresh K ct.ad fr F H σ ρ p c) (r : RAs K ct.ad F σ vs ar) (hE : ∀ cls d H', W cls d σ H' → E cls d H') : spP K ct.ad n G (.ref p :: vs) H Q E := by
  have S1 := S.push f
  have l := S.len
  have np : fr.pa σ.length = none := by
    cases z : fr.pa σ.length with
    | none => rfl
    | some q =>
      obtain ⟨k1, c1, h1, h2⟩ := S.pcs _ q z
      have := (List.getElem?_eq_some_iff.mp h1).1
      omega
  have last : (σ ++ [some (V.ref p)])[ρ.length]? = some (some (V.ref p)) := by rw [← l]; simp
  refine Tat.call (W := fun cls d _ H' => W cls d σ H') (ar := .c ρ.length :: ar) (fr := fr) (F := F) (ρ := ρ ++ [.cel .own c]) (σ := σ ++ [some (.ref p)]) ?_ S1 (RAs.cons (show RA1 K ct.ad F (σ ++ [some (V.ref p)]) (.ref p) (.c ρ.length) from last) (RAs.push (o := some (V.ref p)) r)) hE
  obtain ⟨r0, ρ0, e, q⟩ := h
  unfold PL.callN at e
  cases ec : callG n G (.c ρ.length :: ar) (ρ ++ [.cel .own c]) with
  | none => rw [ec] at e; cases e
  | some y =>
    obtain ⟨ry, ρ1⟩ := y
    rw [ec] at e
    cases e
    refine ⟨r0, ρ1, ec, ?_⟩
    rw [← l] at q
    cases r0 with
    | er c' pl => exact fun d F' H' s' S' pr => q d F' H' s' (S'.pop np) pr
    | ok rv => exact fun v F' H' s' S' rr => q v F' H' s' (S'.pop np) (by
        cases rv with
        | d d => exact rr
        | c c' => obtain ⟨x, ex, fx⟩ := rr; exact ⟨x, ex, fx.pop⟩)
/-- the other arguments, while the cell is held fast -/
theorem Tat.held {β : Type} {R' : Rel3 β Rv} {p : Addr} {c : CC} {as : List AE} {k : List Ar → Ev} {Q : β → Hp → Prop} {Q1 : List V → Hp → Prop} (h : Tat K ct R' W fr F ρ (PL.bnd (evAs as) k) σ Q) (S : Rel K ct fr F H σ ρ) (f : Fresh K ct.ad fr F H σ ρ p c)
    (hq : ∀ F1 H1 ρ1 vs ar, Same F F1 → Rel K ct fr F1 H1 σ ρ1 → Fresh K ct.ad fr F1 H1 σ ρ1 p c → RAs K ct.ad F1 σ vs ar → Tat K ct R' W fr F1 ρ1 (k ar) σ Q → Q1 vs H1) : TAr K ct W (evAs as) σ H Q1 := by
  obtain ⟨o, ho⟩ := f.2.2.2.1.at
  have hp := f.2.1
  refine ⟨fr.hold p o, F, ρ, S.hold f ho, ?_⟩
  obtain ⟨r, ρ', e, q⟩ := h
  unfold PL.bnd at e
  cases em : evAs as ρ with
  | none => rw [em] at e; cases e
  | some x =>
    obtain ⟨r1, ρ1⟩ := x
    rw [em] at e
    refine ⟨r1, ρ1, em, ?_⟩
    cases r1 with
    | er c' pl =>
      cases e
      exact fun d F1 H1 s1 S1 pr => q d F1 H1 s1 (S1.unhold hp) pr
    | ok ar =>
      intro vs F1 H1 s1 S1 rr
      refine hq F1 H1 ρ1 vs ar s1 (S1.unhold hp) (S1.heldF f ho s1) rr ⟨r, ρ', e, ?_⟩
      cases r with
      | ok a => exact fun v F2 H2 s2 S2 rr => q v F2 H2 (s1.trans s2) S2 rr
      | er c' pl => exact fun d F2 H2 s2 S2 rr => q d F2 H2 (s1.trans s2) S2 rr
section
variable {X : Cx} {CX : CXT} {k : Nat} {f : Addr} {fd : FuncData} {ps : List Str} {x : Str} {p pos : Pos} {e : Expr} {es : List Expr} {n : Nat} {G : Fn} {m : Ev} {as : List AE} {dvs : List V} {dds : List D} {ds : List Value}
end
end PL
end
section
namespace PL
open PySem PySem.Spec PyProof.Rows L2
variable {K : PySem.W.Frag} {ad : Cl → Addr} {ct : CT}
variable {fr : Fr} {F F' H H' : Hp} {σ : L2.St} {ρ : List Sl} {W : WX}
/-! ### methods of a class -/
/-- C.m is the plain def at g -/
structure SMet (K : PySem.W.Frag) (C : Addr) (mc : Value) (m : Str) (p g : Addr) : Prop where
  fnd : PySem.W.findCls K (.ref C) mc m = some (.get (.builtin "staticmethod.__get__") (.ref p) .none (.ref C))
  wraps : ∃ rest, PySem.W.recIn K p "staticmethod" = some (.ref g :: rest)
def evCallC (n : Nat) (G : Fn) (c : Cl) (as : List AE) : Ev := bnd (evAs as) fun ar => noEr (callG n G (.d (.cl c) :: ar))
section
variable {X : Cx} {CX : CXT} {k : Nat} {f : Addr} {fd : FuncData} {ps : List Str} {x m : Str} {p pos apos : Pos} {e o : Expr} {es : List Expr} {n : Nat} {G : Fn} {as : List AE} {dvs : List V} {dds : List D} {ds : List Value} {q : Addr} {mc : Value} {sp : Sp}
/-- what raises goes on by the slots as they stand -/
def tSM (C : Addr) (sp : Sp) (dvs : List V) (E : L2.St → XK) (ta : TE) (t : TA) : TE := fun σ H Q => ta σ H fun y H1 => y = .ref C ∧ t σ H1 fun vs H2 => sp (vs ++ dvs) H2 Q (E σ)
section
end
/-- cls(..): the class that slot i holds -/
def evMkL (i n : Nat) (G : Fn) (c : Cl) (as : List AE) : Ev := fun ρ => match ρ[i]? with
  | some (.dat (.cl c')) => if c' = c then evMk n G c as [] ρ else none
  | _ => none
end
end PL
end
section
namespace PL
open PySem PySem.Spec PyProof.Rows L2
variable {K : PySem.W.Frag} {ad : Cl → Addr} {ct : CT}
variable {fr : Fr} {F F' H H' : Hp} {σ : L2.St} {ρ : List Sl} {W : WX}
/-! ### max and min with the default None -/
def bestN (f : Int → Int → Int) : List Int → V
  | [] => .non
  | n :: ns => .int (ns.foldl f n)
def wBestN (f : Int → Int → Int) (K : PySem.W.Frag) : List V → List V → Hp → VK → Prop := fun vs zs H Q => ∃ (a : Addr) (ns : List Int), vs = [.ref a] ∧ zs = [.non] ∧ SqL K H a (ns.map V.int) ∧ Q (bestN f ns) H
section
variable {X : Cx}
end
def bestD (f : Int → Int → Int) : List Int → D
  | [] => .non
  | n :: ns => .int (ns.foldl f n)
def gBestN (f : Int → Int → Int) : List D → Option D | [d] => (lints d).map (bestD f) | _ => none
def evBestN (f : Int → Int → Int) (es : List DE) : Ev := bnd (evDs es) fun ds => opt ((gBestN f ds).map Rv.d)
/-! ### x in xs, both data -/
def rInD (K : PySem.W.Frag) (neg : Bool) : R2 := fun x y H Q => ∃ (d : PyData) (xs : List PyData), Dp K H x d ∧ (Dp K H y (.list xs) ∨ Dp K H y (.tuple xs)) ∧ PyData.plainAll xs = true ∧ d.plain = true ∧ d.depth ≤ 60 ∧ Q (.bl (if neg then !(xs.any fun z => PyData.eqv z d) else xs.any fun z => PyData.eqv z d)) H
def D.its : PyData → Option (List PyData) | .list xs => some xs | .tuple xs => some xs | _ => none
def dInDB (d e : D) : Option Bool := match d.py, e.py.bind D.its with
  | some p, some xs => if PyData.plainAll xs && p.plain && decide (p.depth ≤ 60) then some (xs.any fun z => PyData.eqv z p) else none
  | _, _ => none
def dInD (d e : D) : Option D := (dInDB d e).map .bl
def dNotInD (d e : D) : Option D := (dInDB d e).map fun b => .bl (!b)
/-! ### text * n -/
def repS (x : Str) (n : Nat) : Str := ⟨(List.replicate n x.cps).foldl (· ++ ·) #[]⟩
def rMulS : R2 := fun x y H Q => ∃ (t : Str) (n : Int), x = .str t ∧ y = .int n ∧ -(2 ^ 63) ≤ n ∧ n < 2 ^ 63 ∧ t.length * n.toNat ≤ 16777216 ∧ Q (.str (repS t n.toNat)) H
def dMulS : D → D → Option D
  | .str t, .int n => if -(2 ^ 63) ≤ n ∧ n < 2 ^ 63 ∧ t.length * n.toNat ≤ 16777216 then some (.str (repS t n.toNat)) else none
  | _, _ => none
end PL
end
section
namespace PL
open PySem PySem.Spec PyProof.Rows L2
/-! ### several clauses, each with a name -/
abbrev Cla := Value × Nat × (Addr → Value → Option Addr → TS)
/-- behind a suite its name is gone -/
def Ends.gone (D : Ends) (i : Nat) : Ends := { nx := fun z G => D.nx (z.set i none) G, rt := D.rt, bk := fun z G => D.bk (z.set i none) G, ct := fun z G => D.ct (z.set i none) G }
/-- what the clauses want of an exception, in their order -/
def wCl (K : PySem.W.Frag) (W0 : WX) (D : Ends) : List Cla → WX
  | [] => W0
  | cl :: r => fun C d z G => ∃ t, PySem.W.exmOne K C cl.1 = some t ∧
    if t = true then ∀ q, G q = none → cl.2.2 q C d (Ends.gone D cl.2.1) (z.set cl.2.1 (some (.ref q))) G else wCl K W0 D r C d z G
inductive Clauses (X : Cx) : List ExceptHandler → List Cla → Prop
  | nil : Clauses X [] []
  | cons {x n : Str} {C : Value} {i : Nat} {ts : Addr → Value → Option Addr → TS} {b0 : Stmt} {bs : List Stmt} {p1 p2 : Pos} {hds : List ExceptHandler} {l : List Cla} (hN : X.N[i]? = some n) (hl : X.env.kindOf n = some .local) (hC : Names X x C)
      (run : ∀ (q : Addr) (o : Obj) (Z : Value) (d : Option Addr) (pn : List (Addr × Obj)), Zc Z d o → (∃ ws, o.data = .fields ws) → PSs (X.suite q ((q, o) :: pn)) (b0 :: bs) (ts q Z d)) (r : Clauses X hds l) :
      Clauses X (.ExceptHandler (some (.Name x p1)) (some n) (b0 :: bs) p2 :: hds) ((C, i, ts) :: l)
section
variable {X : Cx} {body : List Stmt} {hds : List ExceptHandler} {h0 : ExceptHandler} {l : List Cla} {pos : Pos} {tb : WX → TS} {W0 : WX}
end
variable {K : PySem.W.Frag} {ct : CT} {fr : Fr} {F H : Hp} {σ : L2.St} {ρ : List Sl} {W : WX}
abbrev Clp := Nat × List (Cl × Bool) × M Fl
/-- the first clause that takes it -/
def pick : List Clp → Cl → Option D → M Fl
  | [], c, pl => fun ρ => some (.er c pl, ρ)
  | x :: r, c, pl => fun ρ => match x.2.1.lookup c with
    | some true => suiteA x.1 c pl x.2.2 ρ
    | some false => pick r c pl ρ
    | none => none
def evTryM (body : M Fl) (cs : List Clp) : M Fl := fun ρ => match body ρ with
  | some (.er c pl, ρ1) => pick cs c pl ρ1
  | r => r
theorem Sat.suiteA {i : Nat} {c : Cl} {pl : Option D} {d : Option Addr} {s : M Fl} {En : Ends} (h : Sat K ct W En fr F ρ (PL.suiteA i c pl s)) (S : Rel K ct fr F H σ ρ) (pr : PlR K ct.ad F c pl d) (a : Addr) : TSt K (ct.su a (.ref (ct.ad c)) d) WF s (Ends.gone En i) (σ.set i (some (.ref a))) H := by
  obtain ⟨r, ρ', e, q⟩ := h
  unfold PL.suiteA at e
  split at e
  · rename_i n1
    split at e
    · cases e
    · rename_i sl hn hsl
      have np := S.npar hsl hn
      split at e
      · rename_i f ρs es
        split at e
        · rename_i n2
          cases e
          have S3 : Rel K (ct.su a (.ref (ct.ad c)) d) fr F H σ ρ := S.ek rfl n1
          refine ⟨fr, F, _, S3.setX rfl pr np, .ok f, _, es, ?_⟩
          cases f with
          | nx => exact fun σ2 F2 H2 s2 S2 => q _ F2 H2 s2 ((S2.setU np).ek rfl n2)
          | bk => exact fun σ2 F2 H2 s2 S2 => q _ F2 H2 s2 ((S2.setU np).ek rfl n2)
          | ct => exact fun σ2 F2 H2 s2 S2 => q _ F2 H2 s2 ((S2.setU np).ek rfl n2)
          | rt x =>
            intro σ2 v F2 H2 s2 S2 rv
            refine q σ2 v F2 H2 s2 ((S2.unR np).ek rfl n2) ?_
            cases x with
            | d d => exact rv
            | c c =>
              obtain ⟨p, ev, f1, f2, f3, f4, f5⟩ := rv
              refine ⟨p, ev, f1, f2, f3, f4, fun j k c' z1 z2 => ?_⟩
              by_cases w : i = j
              · subst w
                rw [List.getElem?_set] at z1
                split at z1
                · split at z1 <;> cases z1
                · rename_i w; exact absurd rfl w
              · rw [List.getElem?_set_ne w] at z1; exact f5 j k c' z1 z2
        · cases e
      · cases e
    · cases e
  · cases e
variable (K ct) in
inductive PRel : List Clp → List Cla → Prop
  | nil : PRel [] []
  | cons {i : Nat} {cv : Value} {cat : List (Cl × Bool)} {s : M Fl} {cs : List Clp} {l : List Cla} (C : CatOk K ct.ad cv cat) (r : PRel cs l) : PRel ((i, cat, s) :: cs) ((cv, i, fun a Z d => TSt K (ct.su a Z d) WF s) :: l)
section
variable {X : Cx} {body : List Stmt} {hds : List ExceptHandler} {h0 : ExceptHandler} {pos : Pos} {mb : M Fl} {cs : List Clp}
variable (K ct) in
/-- the clauses of a text, and what they are -/
structure ClsOk (X : Cx) (hds : List ExceptHandler) (cs : List Clp) : Prop where
  both : ∃ l, Clauses X hds l ∧ PRel K ct cs l
theorem ClsOk.nil : ClsOk K ct X [] [] := ⟨[], .nil, .nil⟩
theorem ClsOk.cons {x n : Str} {cv : Value} {i : Nat} {b0 : Stmt} {bs : List Stmt} {p1 p2 : Pos} {cat : List (Cl × Bool)} {s : M Fl} (hN : X.N[i]? = some n) (hl : X.env.kindOf n = some .local) (hC : Names X x cv) (C : CatOk K ct.ad cv cat)
    (run : ∀ (q : Addr) (o : Obj) (Z : Value) (d : Option Addr) (pn : List (Addr × Obj)), Zc Z d o → (∃ ws, o.data = .fields ws) → PSs (X.suite q ((q, o) :: pn)) (b0 :: bs) (TSt K (ct.su q Z d) WF s)) (r : ClsOk K ct X hds cs) :
    ClsOk K ct X (.ExceptHandler (some (.Name x p1)) (some n) (b0 :: bs) p2 :: hds) ((i, cat, s) :: cs) := by
  obtain ⟨l, h1, h2⟩ := r.both
  exact ⟨_, .cons hN hl hC run h1, .cons C h2⟩
end
end PL
end
section
namespace PL
open PySem PySem.Spec PyProof.Rows L2
variable {K : PySem.W.Frag} {ct : CT} {fr : Fr} {F H : Hp} {σ : L2.St} {ρ : List Sl} {W : WX}
/-! ### [e for x in xs for y in ys] -/
def lcGo2 (vs : List Nat) (tg : Tg) (c : M Bool) (it : M (List D)) (vs1 : List Nat) (tg1 : Tg) (c1 : M Bool) (e : Ev) : List D → List D → M (List D)
  | [], acc => pur acc
  | x :: xs, acc => fun ρ => match asgT tg x ρ with
    | some (.ok .nx, ρ1) => bnd (noEr c) (fun b => if b then bnd (noEr it) (fun ys => bnd (fun ρ => lcGo vs1 tg1 c1 e ys acc (wipeR ρ vs1)) fun acc' => fun ρ => lcGo2 vs tg c it vs1 tg1 c1 e xs acc' (wipeR ρ vs)) else fun ρ => lcGo2 vs tg c it vs1 tg1 c1 e xs acc (wipeR ρ vs)) ρ1
    | _ => none
def evLc2 (vs : List Nat) (it : M (List D)) (tg : Tg) (c : M Bool) (it1 : M (List D)) (vs1 : List Nat) (tg1 : Tg) (c1 : M Bool) (e : Ev) : Ev := bnd it fun xs => lcRun vs (lcGo2 vs tg c it1 vs1 tg1 c1 e) xs
section
variable {X : Cx}
end
end PL
end
section
namespace PL
open PySem PySem.Spec PyProof.Rows L2
variable {K : PySem.W.Frag} {ad : Cl → Addr} {ct : CT} {fr : Fr} {F H : Hp} {σ : L2.St} {ρ : List Sl} {W : WX}
/-! ### defs with a star parameter -/
variable (K ad) in
/-- n values, the others in a new tuple -/
def spV (n : Nat) (G : Fn) : Sp := fun vs H Q E => ∃ ws rest, vs = ws ++ rest ∧ ws.length = n ∧ rest.length ≤ sizeLine ∧ ∀ p, H p = none → spP K ad (n + 1) G (ws ++ [V.ref p]) (upd H p (.tup rest)) Q E
/-- how such a def binds -/
def BindsV (x qual : Str) (st : Stmt) (ps : List Str) (pv : Str) : Prop := ∀ (kV doc pm : Value) (an : Option Addr) (cdv ctv : Value) (us rest : List Value), us.length = ps.length →
  bindArgs (PySem.W.fnOf x qual (defArgs st) (defBody st) (defScope st) .none kV doc pm an cdv ctv) ⟨us ++ rest, []⟩ = (newTuple rest >>= fun t => pure (ps.zip us ++ [(pv, t)]))
def Ar.data : Ar → Option D | .d z => some z | .c _ => none
def datas : List Ar → Option (List D)
  | [] => some []
  | a :: as => match a.data, datas as with | some d, some ds => some (d :: ds) | _, _ => none
theorem RAs.datas {F : Hp} {σ : L2.St} : ∀ {vs : List V} {as : List Ar} {ds : List D}, RAs K ct.ad F σ vs as → PL.datas as = some ds → Rps K ct.ad F vs ds
  | _, [], _, .nil, h => by cases h; exact .nil
  | _, a :: as, ds, .cons h r, e => by
    unfold PL.datas at e
    cases ea : a.data with
    | none => rw [ea] at e; cases e
    | some d =>
      cases eb : PL.datas as with
      | none => rw [ea, eb] at e; cases e
      | some ds' =>
        rw [ea, eb] at e
        cases e
        cases a with
        | d d' => cases ea; exact .cons h (RAs.datas r eb)
        | c j => cases ea
theorem Rps.takeDrop {F : Hp} : ∀ {n : Nat} {vs : List V} {ds : List D}, Rps K ct.ad F vs ds → Rps K ct.ad F (vs.take n) (ds.take n) ∧ Rps K ct.ad F (vs.drop n) (ds.drop n)
  | 0, _, _, h => ⟨.nil, h⟩
  | n + 1, _, _, .nil => ⟨.nil, .nil⟩
  | n + 1, _, _, .cons h r => let ⟨a, b⟩ := Rps.takeDrop (n := n) r; ⟨.cons h a, b⟩
/-- what the call comes to -/
def callV (n : Nat) (G : Fn) (ds : List D) : Ev := if n ≤ ds.length ∧ ds.length ≤ 1000000 then callG (n + 1) G ((ds.take n).map .d ++ [.d (.tup (ds.drop n))]) else fai
theorem RAs.ofRps {F : Hp} {σ : L2.St} : ∀ {vs : List V} {ds : List D}, Rps K ct.ad F vs ds → RAs K ct.ad F σ vs (ds.map .d)
  | _, _, .nil => .nil
  | _, _, .cons h r => .cons h (RAs.ofRps r)
theorem RAs.app {F : Hp} {σ : L2.St} : ∀ {vs ws : List V} {as bs : List Ar}, RAs K ct.ad F σ vs as → RAs K ct.ad F σ ws bs → RAs K ct.ad F σ (vs ++ ws) (as ++ bs)
  | _, _, _, _, .nil, h => h
  | _, _, _, _, .cons h r, k => .cons h (RAs.app r k)
theorem Tat.callV {n : Nat} {G : Fn} {vs : List V} {ds : List D} {Q : VK} {E : XK} (h : Tat K ct (RV K ct.ad) W fr F ρ (PL.callV n G ds) σ Q) (S : Rel K ct fr F H σ ρ) (r : Rps K ct.ad F vs ds) (hE : ∀ cls d H', W cls d σ H' → E cls d H') : spV K ct.ad n G vs H Q E := by
  unfold PL.callV at h
  by_cases c : n ≤ ds.length ∧ ds.length ≤ 1000000
  · rw [if_pos c] at h
    have l := Rps.len r
    refine ⟨vs.take n, vs.drop n, (List.take_append_drop n vs).symm, by rw [List.length_take]; omega, by rw [List.length_drop]; show _ ≤ 2 ^ 24; omega, fun p hp => ?_⟩
    have up := same_up (S.nn hp) (o := .tup (vs.drop n))
    obtain ⟨ra, rb⟩ := r.takeDrop (n := n)
    refine Tat.call (ar := (ds.take n).map .d ++ [.d (.tup (ds.drop n))]) (F := upd F p (.tup (vs.drop n))) ?_ (S.newD hp) ?_ hE
    · obtain ⟨r0, ρ0, e, q⟩ := h
      refine ⟨r0, ρ0, e, ?_⟩
      cases r0 with
      | ok a => exact fun v F' H' s' S' rr => q v F' H' (up.trans s') S' rr
      | er c pl => exact fun d F' H' s' S' rr => q d F' H' (up.trans s') S' rr
    · exact RAs.app (RAs.ofRps (ra.mono up)) (.cons (show RA1 K ct.ad _ σ (V.ref p) (.d (.tup (ds.drop n))) from Rp.tup (SqT.of upd_same) (rb.mono up)) .nil)
  · rw [if_neg c] at h
    obtain ⟨_, _, e, _⟩ := h; cases e
/-! is, is not between truth values -/
def dIsB : D → D → Option D | .bl a, .bl true => some (.bl a) | .bl a, .bl false => some (.bl (!a)) | _, _ => none
def dNotB : D → D → Option D | .bl a, .bl true => some (.bl (!a)) | .bl a, .bl false => some (.bl a) | _, _ => none
def rIsB : R2 := fun x y H Q => ∃ a b, x = .bl a ∧ y = .bl b ∧ Q (.bl (decide (a = b))) H
def rNotB : R2 := fun x y H Q => ∃ a b, x = .bl a ∧ y = .bl b ∧ Q (.bl (!decide (a = b))) H
def evCallV (n : Nat) (G : Fn) (as : List AE) : Ev := bnd (evAs as) fun ar => bnd (opt (datas ar)) fun ds => callV n G ds
def evCallV0 (n : Nat) (G : Fn) (as : List AE) : Ev := bnd (evAs as) fun ar => bnd (opt (datas ar)) fun ds => noEr (callV n G ds)
/-- f(*xs) -/
def evCallVS (n : Nat) (G : Fn) (m : Ev) : Ev := bnd (dat m) fun d => bnd (opt d.items) fun ds => callV n G ds
section
variable {X : Cx} {CX : CXT} {k : Nat} {f : Addr} {x : Str} {p pos sp_ : Pos} {e : Expr} {es : List Expr} {n : Nat} {G : Fn} {as : List AE} {m : Ev} {sp : Sp} {E : L2.St → XK} {t : TA} {te : TE}
end
end PL
end
section
/-! enumerate over a tuple -/
namespace OW
open PySem PySem.Spec PyProof.Rows L2
/-- the tuple at a, each item in a new pair with its place -/
def ItE (K : PySem.W.Frag) (a : Addr) : It :=
  ⟨fun i H => ∃ (xs : List V) (x : V), SqT K H a xs ∧ xs[i]? = some x, fun i H v H' => ∃ T x, v = .ref T ∧ H T = none ∧ H' = upd H T (.tup [.int (i : Nat), x]) ∧ ∀ xs, SqT K H a xs → xs[i]? = some x, fun i H => ∃ xs : List V, SqT K H a xs ∧ xs.length ≤ i⟩
def iEnumT (K : PySem.W.Frag) (ta : TA) : TI := fun σ H R => ta σ H fun vs H1 => ∃ a xs, vs = [.ref a] ∧ SqT K H1 a xs ∧ R (ItE K a) H1
/-! the sum of a tuple of ints -/
def rSumT (K : PySem.W.Frag) : List V → Hp → VK → Prop := fun vs H Q => ∃ (a : Addr) (ns : List Int), vs = [V.ref a] ∧ SqT K H a (ns.map V.int) ∧ Q (.int ns.sum) H
end OW
namespace PL
open PySem PySem.Spec PyProof.Rows L2
variable {K : PySem.W.Frag} {ct : CT} {W : WX} {F : Hp} {X : Cx}
/-- each item with its place -/
def enumD (xs : List D) : List D := xs.zipIdx.map fun p => .tup [.int (p.2 : Int), p.1]
def itET (e : Ev) : M (List D) := bnd (dat e) fun d => match d with | .tup xs => pur (enumD xs) | _ => fai
def itEL (e : Ev) : M (List D) := bnd (dat e) fun d => match d with | .lst xs => pur (enumD xs) | .sq xs => pur (enumD xs) | _ => fai
def tints (d : D) : Option (List Int) := d.titems.bind D.ints
def gSumT : List D → Option D | [d] => (tints d).map fun ns => .int ns.sum | _ => none
/-! how often a text lies in another -/
def evCnt (o e : Ev) : Ev := bnd (dat o) fun x => match x with
  | .str a => bnd (dat e) fun y => match y with
    | .str b => pur (.d (.int (Txt.count a b)))
    | _ => fai
  | _ => fai
/-! zip of two lists, of two tuples -/
def zipD (xs ys : List D) : List D := (xs.zip ys).map fun p => .tup [p.1, p.2]
def itZ (a b : Ev) : M (List D) := bnd (dat a) fun x => bnd (dat b) fun y => match x, y with
  | .lst xs, .lst ys => pur (zipD xs ys)
  | .tup xs, .tup ys => pur (zipD xs ys)
  | _, _ => fai
/-! range with a step -/
def rng3D (lo c : Int) (n : Nat) : List D := (List.range n).map fun (i : Nat) => .int (lo + i * c)
/-- what a range may be -/
def stepOk (i j c : Int) : Prop := c ≠ 0 ∧ c.natAbs < 1073741824 ∧ Builtin.Range.small i j c = true ∧ 0 ≤ Builtin.Range.rangeSize i j c
instance {i j c : Int} : Decidable (stepOk i j c) := by unfold stepOk; exact inferInstance
def itR3 (a b c : Ev) : M (List D) := bnd (dat a) fun x => bnd (dat b) fun y => bnd (dat c) fun z => match x, y, z with
  | .int i, .int j, .int k => if stepOk i j k then pur (rng3D i k (Builtin.Range.rangeSize i j k).toNat) else fai
  | _, _, _ => fai
end PL
end
section
namespace PL
open PySem PySem.Spec PyProof.Rows L2
/-! ### a comprehension that goes into a name which another comprehension reads: no exchange of stores -/
/-! ### t[::2], t[1::2], t[::-1] of a tuple -/
def evs {α : Type} : List α → List α | [] => [] | [a] => [a] | a :: _ :: r => a :: evs r
def ods {α : Type} : List α → List α | [] => [] | [_] => [] | _ :: b :: r => b :: ods r
theorem evs_len {α : Type} : ∀ xs : List α, (evs xs).length = (xs.length + 1) / 2
  | [] => by simp [evs]
  | [_] => by simp [evs]
  | _ :: _ :: r => by rw [evs, List.length_cons, evs_len r, List.length_cons, List.length_cons]; omega
theorem ods_len {α : Type} : ∀ xs : List α, (ods xs).length = xs.length / 2
  | [] => by simp [ods]
  | [_] => by simp [ods]
  | _ :: _ :: r => by rw [ods, List.length_cons, ods_len r, List.length_cons, List.length_cons]; omega
theorem evs_get {α : Type} : ∀ (xs : List α) (k : Nat), (evs xs)[k]? = xs[2 * k]?
  | [], k => by simp [evs]
  | [a], 0 => rfl
  | [a], k + 1 => by rw [evs, List.getElem?_cons_succ, List.getElem?_nil, List.getElem?_eq_none (by simp; omega)]
  | a :: b :: r, 0 => rfl
  | a :: b :: r, k + 1 => by rw [evs, List.getElem?_cons_succ, evs_get r k, show 2 * (k + 1) = 2 * k + 1 + 1 by omega, List.getElem?_cons_succ, List.getElem?_cons_succ]
theorem ods_get {α : Type} : ∀ (xs : List α) (k : Nat), (ods xs)[k]? = xs[2 * k + 1]?
  | [], k => by simp [ods]
  | [a], k => by rw [ods, List.getElem?_nil, List.getElem?_eq_none (by simp)]
  | a :: b :: r, 0 => rfl
  | a :: b :: r, k + 1 => by rw [ods, List.getElem?_cons_succ, ods_get r k, show 2 * (k + 1) + 1 = 2 * k + 1 + 1 + 1 by omega, List.getElem?_cons_succ, List.getElem?_cons_succ]
theorem fm_get {α : Type} {xs ys : List α} {f : Nat → Nat} (h : ∀ k, k < ys.length → xs[f k]? = ys[k]?) : (List.range ys.length).filterMap (fun k => xs[f k]?) = ys := by
  have go : ∀ n, n ≤ ys.length → (List.range n).filterMap (fun k => xs[f k]?) = ys.take n := by
    intro n
    induction n with
    | zero => intro _; rfl
    | succ n ih =>
      intro hn
      rw [List.range_succ, List.filterMap_append, ih (by omega), List.take_add_one, List.filterMap_cons, List.filterMap_nil, h n (by omega)]
      cases ys[n]? <;> rfl
  rw [go _ (Nat.le_refl _), List.take_length]
/-- which slice with a step -/
inductive StK | ev | od | rv
def StK.lo : StK → Option Int | .od => some 1 | _ => none
def StK.st : StK → Int | .rv => -1 | _ => 2
def StK.ap {α : Type} (k : StK) (xs : List α) : List α := match k with | .ev => evs xs | .od => ods xs | .rv => xs.reverse
theorem StK.len {α : Type} (k : StK) (xs : List α) : (k.ap xs).length ≤ xs.length := by
  cases k with
  | ev => show (evs xs).length ≤ _; rw [evs_len]; omega
  | od => show (ods xs).length ≤ _; rw [ods_len]; omega
  | rv => show xs.reverse.length ≤ _; rw [List.length_reverse]; omega
theorem StK.pick {α : Type} (k : StK) (xs : List α) :
    (List.range (Builtin.Slice.slicePlaces (Builtin.Slice.sliceAdjust k.lo none k.st xs.length).1 (Builtin.Slice.sliceAdjust k.lo none k.st xs.length).2 k.st)).filterMap (fun (m : Nat) => xs[((Builtin.Slice.sliceAdjust k.lo none k.st xs.length).1 + (m : Int) * k.st).toNat]?) = k.ap xs := by
  have key : ∀ (a : Int) (s : Int) (n : Nat) (ys : List α), n = ys.length → (∀ m, m < ys.length → xs[(a + (m : Int) * s).toNat]? = ys[m]?) → (List.range n).filterMap (fun (m : Nat) => xs[(a + (m : Int) * s).toNat]?) = ys := by
    intro a s n ys e h
    subst e
    exact fm_get (f := fun m => (a + (m : Int) * s).toNat) h
  cases k with
  | ev =>
    refine key _ _ _ _ ?_ fun m hm => ?_
    · show Builtin.Slice.slicePlaces (Builtin.Slice.sliceAdjust none none 2 (xs.length : Int)).1 (Builtin.Slice.sliceAdjust none none 2 (xs.length : Int)).2 2 = (evs xs).length
      rw [evs_len]
      unfold Builtin.Slice.sliceAdjust Builtin.Slice.slicePlaces
      simp
      split <;> omega
    · show xs[((Builtin.Slice.sliceAdjust none none 2 (xs.length : Int)).1 + (m : Int) * 2).toNat]? = (evs xs)[m]?
      rw [evs_get]
      congr 1
      (unfold Builtin.Slice.sliceAdjust; simp; omega)
  | od =>
    refine key _ _ _ _ ?_ fun m hm => ?_
    · show Builtin.Slice.slicePlaces (Builtin.Slice.sliceAdjust (some 1) none 2 (xs.length : Int)).1 (Builtin.Slice.sliceAdjust (some 1) none 2 (xs.length : Int)).2 2 = (ods xs).length
      rw [ods_len]
      unfold Builtin.Slice.sliceAdjust Builtin.Slice.slicePlaces
      simp
      split <;> omega
    · show xs[((Builtin.Slice.sliceAdjust (some 1) none 2 (xs.length : Int)).1 + (m : Int) * 2).toNat]? = (ods xs)[m]?
      have hm : m < (ods xs).length := hm
      rw [ods_len] at hm
      rw [ods_get]
      congr 1
      (unfold Builtin.Slice.sliceAdjust; simp; omega)
  | rv =>
    refine key _ _ _ _ ?_ fun m hm => ?_
    · show Builtin.Slice.slicePlaces (Builtin.Slice.sliceAdjust none none (-1) (xs.length : Int)).1 (Builtin.Slice.sliceAdjust none none (-1) (xs.length : Int)).2 (-1) = xs.reverse.length
      rw [List.length_reverse]
      unfold Builtin.Slice.sliceAdjust Builtin.Slice.slicePlaces
      simp
      split <;> omega
    · show xs[((Builtin.Slice.sliceAdjust none none (-1) (xs.length : Int)).1 + (m : Int) * (-1)).toNat]? = xs.reverse[m]?
      have hm : m < xs.reverse.length := hm
      rw [List.length_reverse] at hm
      rw [List.getElem?_reverse hm]
      congr 1
      (unfold Builtin.Slice.sliceAdjust; simp; omega)
theorem StK.map {α β : Type} {R : α → β → Prop} : ∀ (k : StK) {xs : List α} {ys : List β}, xs.length = ys.length → (∀ (i : Nat) (x : α), xs[i]? = some x → ∃ y, ys[i]? = some y ∧ R x y) → (k.ap xs).length = (k.ap ys).length ∧ ∀ (i : Nat) (x : α), (k.ap xs)[i]? = some x → ∃ y, (k.ap ys)[i]? = some y ∧ R x y := by
  intro k xs ys hl h
  cases k with
  | ev => exact ⟨by show (evs xs).length = (evs ys).length; rw [evs_len, evs_len, hl], fun i x (e : (evs xs)[i]? = _) => by
      rw [evs_get] at e; obtain ⟨y, h1, h2⟩ := h _ x e; exact ⟨y, by show (evs ys)[i]? = _; rw [evs_get]; exact h1, h2⟩⟩
  | od => exact ⟨by show (ods xs).length = (ods ys).length; rw [ods_len, ods_len, hl], fun i x (e : (ods xs)[i]? = _) => by
      rw [ods_get] at e; obtain ⟨y, h1, h2⟩ := h _ x e; exact ⟨y, by show (ods ys)[i]? = _; rw [ods_get]; exact h1, h2⟩⟩
  | rv => exact ⟨by show xs.reverse.length = ys.reverse.length; rw [List.length_reverse, List.length_reverse, hl], fun i x (e : xs.reverse[i]? = _) => by
      have l : i < xs.reverse.length := by
        rcases Nat.lt_or_ge i xs.reverse.length with q | q
        · exact q
        · rw [List.getElem?_eq_none q] at e; cases e
      rw [List.length_reverse] at l
      rw [List.getElem?_reverse l] at e
      obtain ⟨y, h1, h2⟩ := h _ x e
      refine ⟨y, ?_, h2⟩
      show ys.reverse[i]? = _
      rw [List.getElem?_reverse (by omega), ← hl]
      exact h1⟩
variable {K : PySem.W.Frag} {ad : Cl → Addr} {ct : CT}
section
variable {prog : Program} {w : World} {A : Around} {E : Value → Shared → Prop} {s : Shared}
/-- where such a slice begins, and how many places it has -/
def StK.at0 (k : StK) (n : Int) : Int := (Builtin.Slice.sliceAdjust k.lo none k.st n).1
def StK.many (k : StK) (n : Int) : Nat := Builtin.Slice.slicePlaces (k.at0 n) (Builtin.Slice.sliceAdjust k.lo none k.st n).2 k.st
end
section
variable {fr : Fr} {F F' H H' : Hp} {σ : L2.St} {ρ : List Sl} {W : WX} {X : Cx}
def tStT (K : PySem.W.Frag) (k : StK) (te : TE) : TE := fun σ H Q => te σ H fun x H1 => ∃ a xs, x = .ref a ∧ SqT K H1 a xs ∧ ∀ p, H1 p = none → Q (.ref p) (upd H1 p (.tup (k.ap xs)))
/-- the written parts of such a slice -/
inductive StE : StK → Option Expr → Option Expr → Prop
  | ev (k : Nat) (p : Pos) : StE .ev none (some (.Constant (.int 2) k p))
  | od (k k' : Nat) (p p' : Pos) : StE .od (some (.Constant (.int 1) k' p')) (some (.Constant (.int 2) k p))
  | rv (k : Nat) (p p' : Pos) : StE .rv none (some (.UnaryOp .USub (.Constant (.int 1) k p) p'))
theorem PO.get {lo : Option Expr} {to : TO} (h : PO X lo to) {pins : List (Addr × Obj)} {s : Shared} {σ : L2.St} {H : Hp} {o : Option Int} (I : Inv X pins σ H s) (q : to σ H fun o' H' => o' = o ∧ H' = H) :
    wpAny (model X.prog X.w) X.A (evalPart lo X.env) (fun vl s1 => Inv X pins σ H s1 ∧ IsPart vl o) X.xe s :=
  thn (h.run pins s σ H _ I q) fun vl s1 ⟨l, H2, I2, pl, el, e2⟩ => by subst el e2; exact ⟨I2, pl⟩
def evSt (k : StK) (m : Ev) : Ev := bnd (dat m) fun d => match d with | .tup xs => vD (.tup (k.ap xs)) | _ => fai
end
/-! ### x in o, x not in o, also as tests -/
end PL
namespace OW
open PySem PySem.Spec PyProof.Rows L2
section
variable {CX : CXT} {X : Cx} {C : Addr} {f : Addr} {fd : FuncData} {k : Nat} {ps : List Str} {sp : Sp} {E : XK}
end
end OW
namespace PL
open PySem PySem.Spec PyProof.Rows L2
section
variable {CX : CXT} {K : PySem.W.Frag} {ct : CT} {fr : Fr} {F F' H H' : Hp} {σ : L2.St} {ρ : List Sl} {W : WX} {X : Cx} {f : Addr} {fd : FuncData} {k : Nat} {ps : List Str} {n : Nat} {G : Fn} {pos : Pos}
/-- x not in o -/
def evOwnNin (n : Nat) (G : Fn) (c : Cl) (a b : Ev) : Ev := bnd (dat a) fun x => bnd (dat b) fun d => match d with
  | .obj c' xs => if c' = c then tst (noEr (callG n G [.d (.obj c xs), .d x])) |> fun t => bnd t fun b => vD (.bl (!b)) else fai
  | _ => fai
variable {m : Str} {a b : Expr} {fa fb : Ev}
end
end PL
/-! ### min, max, sum over a list or a tuple -/
namespace OW
open PySem PySem.Spec PyProof.Rows L2
def rMinT (K : PySem.W.Frag) : List V → Hp → VK → Prop := fun vs H Q => ∃ (a : Addr) (ns : List Int), vs = [V.ref a] ∧ SqT K H a (ns.map V.int) ∧ ns ≠ [] ∧ Q (.int (PL.minI ns)) H
def rMaxT (K : PySem.W.Frag) : List V → Hp → VK → Prop := fun vs H Q => ∃ (a : Addr) (ns : List Int), vs = [V.ref a] ∧ SqT K H a (ns.map V.int) ∧ ns ≠ [] ∧ Q (.int (PL.maxI ns)) H
/-- either of two readings of a call -/
def rOr (r1 r2 : List V → Hp → VK → Prop) : List V → Hp → VK → Prop := fun vs H Q => r1 vs H Q ∨ r2 vs H Q
end OW
namespace PL
open PySem PySem.Spec PyProof.Rows L2
section
variable {K : PySem.W.Frag} {ad : Cl → Addr} {X : Cx}
def aints (d : D) : Option (List Int) := d.items.bind D.ints
def gMinA : List D → Option D | [d] => (aints d).bind fun ns => if ns ≠ [] then some (.int (minI ns)) else none | _ => none
def gMaxA : List D → Option D | [d] => (aints d).bind fun ns => if ns ≠ [] then some (.int (maxI ns)) else none | _ => none
def gSumA : List D → Option D | [d] => (aints d).map fun ns => .int ns.sum | _ => none
end
end PL
end
section
/-! an exception class over a class over ValueError, whose __init__ says super().__init__(text) and then stores its one value -/
namespace EX
abbrev bmVE : List PySem.Value := [.type "ValueError", .type "Exception", .type "BaseException", .type "object"]
open PySem PySem.Spec PyProof.Rows L2
/-! ### a value told in a text -/
def FmtOk (K : PySem.W.Frag) (v : V) (H : Hp) : Prop := (∃ y : Str, v = .str y ∧ y.length ≤ 3000) ∨ (∃ i : Int, v = .int i ∧ i.natAbs.log2 < 1920) ∨ ∃ (t : Addr) (l : List Int), v = .ref t ∧ SqT K H t (l.map V.int) ∧ l.length ≤ 4 ∧ ∀ i ∈ l, i.natAbs.log2 < 1920
/-- {x}: some text -/
def tFmtA (K : PySem.W.Frag) (te : TE) : TE := fun σ H Q => te σ H fun x H1 => FmtOk K x H1 ∧ ∀ m : Str, m.length ≤ 10000 → Q (.str m) H1
/-! ### the def -/
/-- what is known at the start of the body: its frame, the cell of __class__ -/
def cxX (P : Program) (w : World) (K : PySem.W.Frag) (mg : Str → Option Value) (base : Heap) (N : List Str) (qual : Str) (scope : Scope) (f : Addr) (cd : Value) (cc : Addr) (A : Around) (outer : List Env) (s : Shared) (H : Hp) : Cx where
  prog := P
  w := w
  K := K
  mg := mg
  base := base
  A := A.deeper (PySem.W.ksEnv qual scope s.heap.objs.size f cd cc)
  N := N
  s_0 := s
  H_0 := H
  env := PySem.W.ksEnv qual scope s.heap.objs.size f cd cc
  outer := outer
  stack := PySem.W.ksEnv qual scope s.heap.objs.size f cd cc :: outer
  ex := []
  calm := true
  fn := fun _ => false
  pn := []
  xe := fun _ _ => False
section
variable {P : Program} {w : World} {K : PySem.W.Frag} {mg : Str → Option Value} {base : Heap} {A : Around} {outer : List Env} {s : Shared} {H : Hp} {h₀ : Heap} {N : List Str} {qual : Str} {scope : Scope} {f cc D : Addr} {cd : Value} {σ : L2.St} {t' : Nat} {m : Str → Option Value}
  {cl : Value} {cld : Option Addr} {csl : Array (Option Value)}
end
section
open PySem.W PySem.Calls
variable {A : Around} {prog : Program} {E : Value → Shared → Prop} {w : World}
variable {h : Heap} {g : Array GenState} {d : Drawn} {t : Nat} {os : OsState}
end
abbrev sfS : Str := "self"
/-- the argument's text -/
def tA (K : PySem.W.Frag) : TE := fun σ H Q => ∃ v, σ[1]? = some (some v) ∧ FmtOk K v H ∧ ∀ m : Str, m.length ≤ 11000 → Q (.str m) H
/-- the promise: at a stands a new exception of the class; its field gets the value -/
def spE (K : PySem.W.Frag) (C : Addr) (fld : Str) : Sp := fun vs H Q _ => ∃ (a : Addr) (v : V), vs = [.ref a, v] ∧ H a = some (exo a C none) ∧ FmtOk K v H ∧ ∀ dx, H dx = none → dx ≠ a → Q .non (upd (upd H dx (exd dx [(fld, v)])) a (exo a C (some dx)))
section
open PySem.W PySem.Calls
variable {P : Program} {w : World} {K : PySem.W.Frag} {mg : Str → Option Value} {base : Heap} {k : Nat} {f C cc cda : Addr} {fld x name qual : Str} {params : Arguments} {body : List Stmt} {scope : Scope} {dV kV doc pm ct oc ccl cl : Value} {an od cdd cld : Option Addr} {osl ccs csl : Array (Option Value)}
  {vs : Array Value} {file : Str} {tf : Tok} {cdD : ClassData} {ar : Arg} {p0 p1 p2 p3 p4 q1 q2 q3 q4 : Pos} {e : Expr}
end
section
variable {X : Cx} {scope : Scope} {x a b : Str} {j1 j2 : Nat} {r1 r2 r3 r4 r5 : Pos} {k : Nat}
end
end EX
end
section
namespace OW
open PySem PySem.Spec PyProof.Rows L2
/-! list(o), where o's __iter__ gives the iterator of a tuple -/
section
variable {X : Cx} {pins : List (Addr × Obj)} {σ : L2.St} {H : Hp} {A1 : Around} {t it q : Addr} {zs : List V} {Rs : Result → Shared → Prop}
end
/-- the list of an own object's tuple -/
def rOwnT (K : PySem.W.Frag) (C : Addr) (sp : Nat → Sp) : List V → Hp → VK → Prop := fun xs H Q => ∃ a dx fs, xs = [.ref a] ∧ H a = some (.ins C dx fs) ∧
  ∀ q n, H q = none → sp n [.ref a] (upd H q (.lst [])) (fun v G => ∃ it t zs, v = .ref it ∧ n ≤ it ∧ upd H q (.lst []) it = none ∧ G = upd (upd H q (.lst [])) it (TIt t it) ∧ (∀ acc, SqT K (upd H q (.lst acc)) t zs) ∧ Q (.ref q) (upd H q (.lst zs))) E0
section
variable {X : Cx} {k : Nat} {C f : Addr} {fd : FuncData} {ps : List Str} {sp : Nat → Sp}
end
end OW
end
section
set_option maxHeartbeats 3200000
namespace OW
open PySem PySem.Spec PyProof.Rows L2
/-! set(xs), xs a list of ints; sorted(set(xs)) -/
section
variable {w : World} {P : Program} {A : Around} {s : Shared} {E : Value → Shared → Prop}
/-- the set object before anything is in it -/
abbrev newSet (w : World) : Obj := { cls := .type "set", dict := none, data := .set #[] 0 (.fresh 0 0 (!w.params.followText "set-order")) }
end
/-- set(xs): where it stands, what is in it -/
def PSt (X : Cx) (e : Expr) (t : L2.St → Hp → (List Int → Hp → Prop) → Prop) : Prop := ∀ (pins : List (Addr × Obj)) (s : Shared) (σ : L2.St) (H : Hp) (Q : List Int → Hp → Prop), Inv X pins σ H s → t σ H Q →
  wpAny (model X.prog X.w) X.A (eval e X.env) (fun v s' => ∃ (a : Addr) (ns : List Int) (n : Nat) (H1 : Hp), v = .ref a ∧ SetR X.w s'.heap a (fun j => decide (j ∈ ns)) n ∧ n ≤ ns.length ∧ Inv X pins σ H1 s' ∧ Q ns H1) X.xe s
def tSt (K : PySem.W.Frag) (ta : TE) : L2.St → Hp → (List Int → Hp → Prop) → Prop := fun σ H Q => ta σ H fun x H1 => ∃ (p : Addr) (ns : List Int), x = .ref p ∧ SqL K H1 p (ns.map V.int) ∧ ns.length ≤ 60 ∧ Q ns H1
section
variable {X : Cx} {e : Expr} {ta : TE} {p pos : Pos}
def tSrtSt (te : L2.St → Hp → (List Int → Hp → Prop) → Prop) : TE := fun σ H Q => te σ H fun ns H1 => ns.length ≤ 60 ∧ ∀ q (ms : List Int), H1 q = none → ms.Pairwise (· < ·) → (∀ k, k ∈ ms ↔ k ∈ ns) → Q (.ref q) (upd H1 q (.lst (ms.map V.int)))
end
end OW
end
section
namespace OW
open PySem PySem.Spec PyProof.Rows L2
/-! o(..), o an own object with __call__ -/
section
variable {M : Model} {A : Around} {s : Shared} {env : Env} {E : Value → Shared → Prop}
end
def tCO (C : Addr) (sp : Sp) (E : L2.St → XK) (ta : TE) (t : TA) : TE := fun σ H Q => ta σ H fun x H1 => ∃ a dx fs, x = .ref a ∧ H1 a = some (.ins C dx fs) ∧ t σ H1 fun vs H2 => H2 a = some (.ins C dx fs) ∧ sp (.ref a :: vs) H2 Q (E σ)
end OW
end
section
/-! zip of two texts -/
namespace OW
open PySem PySem.Spec PyProof.Rows L2
/-- two texts, sign by sign, in new pairs -/
def ItzS (a b : Str) : It :=
  ⟨fun i _ => i < a.cps.size ∧ i < b.cps.size, fun i H v H' => ∃ T c d, v = .ref T ∧ H T = none ∧ H' = upd H T (.tup [.str ⟨#[c]⟩, .str ⟨#[d]⟩]) ∧ a.cps[i]? = some c ∧ b.cps[i]? = some d,
    fun i _ => a.cps.size ≤ i ∨ b.cps.size ≤ i⟩
def iZipS (ta : TA) : TI := fun σ H R => ta σ H fun vs H1 => ∃ a b, vs = [.str a, .str b] ∧ R (ItzS a b) H1
end OW
namespace PL
open PySem PySem.Spec PyProof.Rows L2
variable {K : PySem.W.Frag} {ct : CT} {W : WX} {F : Hp} {X : Cx}
def itZS (a b : Ev) : M (List D) := bnd (dat a) fun x => bnd (dat b) fun y => match x, y with
  | .str s, .str t => pur (zipD (chars s) (chars t))
  | _, _ => fai
end PL
end
section
/-! exceptions with a value of their own -/
namespace PL
open PySem PySem.Spec PyProof.Rows L2
variable {K : PySem.W.Frag} {ad : Cl → Addr} {ct : CT}
variable {fr : Fr} {F F' H H' : Hp} {σ : L2.St} {ρ : List Sl} {W : WX}
/-- a value that may be told in a text -/
def fmtD : D → Bool
  | .str y => decide (y.length ≤ 3000)
  | .int k => decide (k.natAbs.log2 < 1920)
  | .tup xs => match D.ints xs with | some l => decide (l.length ≤ 4) && l.all fun i => decide (i.natAbs.log2 < 1920) | none => false
  | _ => false
def evRaiseP (c : Cl) (m : Ev) : M Fl := bnd (dat m) fun d => if fmtD d = true then (fun ρ => some (.er c (some d), ρ)) else fai
/-! ### list(o) of an own object, list.clear -/
def gLstO (c : Cl) (i : Nat) : List D → Option CC
  | [.obj c' xs] => if c' = c then (match xs[i]? with | some (.tup ys) => some (.lst ys) | _ => none) else none
  | _ => none
def fClr : List D → List D → Option (D × List D) | _, [] => some (.non, []) | _, _ => none
/-! ### sorted(xs), xs a list of pairs of ints -/
def pD (k : Int × Int) : D := .tup [.int k.1, .int k.2]
def prs : List D → Option (List (Int × Int))
  | [] => some []
  | .tup [.int a, .int b] :: r => (prs r).map ((a, b) :: ·)
  | _ => none
theorem prs_of : ∀ {xs : List D} {ks : List (Int × Int)}, prs xs = some ks → xs = ks.map pD
  | [], ks, h => by cases h; rfl
  | x :: xs, ks, h => by
    unfold prs at h
    split at h
    · rename_i e
      cases e
    · rename_i a b r e
      cases e
      obtain ⟨l, e1, rfl⟩ := map_some h
      rw [prs_of e1]
      rfl
    · cases h
theorem prs_map : ∀ ks : List (Int × Int), prs (ks.map pD) = some ks
  | [] => rfl
  | k :: ks => by
    show (prs (ks.map pD)).map ((k.1, k.2) :: ·) = _
    rw [prs_map ks]
    rfl
/-- the order of pairs -/
def PLe (a b : Int × Int) : Prop := a.1 < b.1 ∨ (a.1 = b.1 ∧ a.2 ≤ b.2)
instance (a b : Int × Int) : Decidable (PLe a b) := by unfold PLe; infer_instance
def insP (k : Int × Int) : List (Int × Int) → List (Int × Int)
  | [] => [k]
  | x :: r => if PLe k x then k :: x :: r else x :: insP k r
def srtP : List (Int × Int) → List (Int × Int)
  | [] => []
  | k :: r => insP k (srtP r)
theorem insP_perm (k : Int × Int) : ∀ l, (insP k l).Perm (k :: l)
  | [] => .refl _
  | x :: r => by
    unfold insP
    split
    · exact .refl _
    · exact ((insP_perm k r).cons x).trans (.swap k x r)
theorem srtP_perm : ∀ l, (srtP l).Perm l
  | [] => .refl _
  | k :: r => (insP_perm k _).trans ((srtP_perm r).cons k)
theorem insP_asc (k : Int × Int) : ∀ {l}, l.Pairwise PLe → (insP k l).Pairwise PLe
  | [], _ => by simp [insP]
  | x :: r, h => by
    have h2 := List.pairwise_cons.mp h
    unfold insP
    split
    · rename_i c
      refine List.pairwise_cons.mpr ⟨fun y hy => ?_, h⟩
      (rcases List.mem_cons.mp hy with e | e)
      · subst e; exact c
      · have := h2.1 y e
        unfold PLe at *
        omega
    · rename_i c
      refine List.pairwise_cons.mpr ⟨fun y hy => ?_, insP_asc k h2.2⟩
      rcases List.mem_cons.mp ((insP_perm k r).mem_iff.mp hy) with e | e
      · subst e
        unfold PLe at *
        omega
      · exact h2.1 y e
theorem srtP_asc : ∀ l, (srtP l).Pairwise PLe
  | [] => .nil
  | k :: r => insP_asc k (srtP_asc r)
theorem asc_uniq : ∀ {l m : List (Int × Int)}, l.Perm m → l.Pairwise PLe → m.Pairwise PLe → l = m
  | [], m, h, _, _ => by rw [h.nil_eq]
  | a :: l, [], h, _, _ => by have := h.length_eq; simp at this
  | a :: l, b :: m, h, h1, h2 => by
    have p1 := List.pairwise_cons.mp h1
    have p2 := List.pairwise_cons.mp h2
    have e : a = b := by
      have ab : PLe a b := by
        rcases List.mem_cons.mp (h.mem_iff.mpr List.mem_cons_self) with e | e
        · rw [e]; unfold PLe; omega
        · exact p1.1 b e
      have ba : PLe b a := by
        rcases List.mem_cons.mp (h.mem_iff.mp List.mem_cons_self) with e | e
        · rw [e]; unfold PLe; omega
        · exact p2.1 a e
      unfold PLe at ab ba
      exact Prod.ext (by omega) (by omega)
    subst e
    rw [asc_uniq (h.cons_inv) p1.2 p2.2]
theorem Rps.perm {ys us : List V} (h : ys.Perm us) : ∀ {ds : List D}, Rps K ad F us ds → ∃ es, es.Perm ds ∧ Rps K ad F ys es := by
  induction h with
  | nil => intro ds r; exact ⟨ds, .refl _, r⟩
  | cons x _ ih =>
    intro ds r
    cases r with
    | cons a t =>
      obtain ⟨es, p, r⟩ := ih t
      exact ⟨_ :: es, p.cons _, .cons a r⟩
  | swap x y l =>
    intro ds r
    cases r with
    | cons a t => cases t with
      | cons b t => exact ⟨_, .swap _ _ _, .cons b (.cons a t)⟩
  | trans _ _ ih1 ih2 =>
    intro ds r
    obtain ⟨es, p, r⟩ := ih2 r
    obtain ⟨fs, p2, r⟩ := ih1 r
    exact ⟨fs, p2.trans p, r⟩
theorem Rps.at_ {us : List V} {ds : List D} (r : Rps K ad F us ds) : ∀ x ∈ us, ∃ d ∈ ds, Rp K ad F x d := by
  induction us generalizing ds with
  | nil => intro x hx; simp at hx
  | cons u us ih =>
    intro x hx
    cases r with
    | cons a t =>
      rcases List.mem_cons.mp hx with e | e
      · subst e; exact ⟨_, List.mem_cons_self, a⟩
      · obtain ⟨d, hd, q⟩ := ih t x e
        exact ⟨d, List.mem_cons_of_mem _ hd, q⟩
theorem Rps.back {us : List V} {ds : List D} (r : Rps K ad F us ds) : ∀ d ∈ ds, ∃ x ∈ us, Rp K ad F x d := by
  induction us generalizing ds with
  | nil => cases r; intro x hx; simp at hx
  | cons u us ih =>
    cases r with
    | cons a t =>
      intro d hd
      rcases List.mem_cons.mp hd with e | e
      · subst e; exact ⟨_, List.mem_cons_self, a⟩
      · obtain ⟨d, hd, q⟩ := ih t d e
        exact ⟨d, List.mem_cons_of_mem _ hd, q⟩
theorem Rps.pw {P : V → V → Prop} {R : D → D → Prop} (g : ∀ x y d e, P x y → Rp K ad F x d → Rp K ad F y e → R d e) : ∀ {us : List V} {ds : List D}, Rps K ad F us ds → us.Pairwise P → ds.Pairwise R := by
  intro us
  induction us with
  | nil => intro ds r _; cases r; exact .nil
  | cons u us ih =>
    intro ds r h
    cases r with
    | cons a t =>
      have h := List.pairwise_cons.mp h
      refine List.pairwise_cons.mpr ⟨fun e he => ?_, ih t h.2⟩
      obtain ⟨x, hx, q⟩ := t.back e he
      exact g _ _ _ _ (h.1 x hx) a q
theorem tupI_of {H : Hp} {x : V} {k : Int × Int} (s : Same F H) (r : Rp K ad F x (pD k)) : TupI K H x [k.1, k.2] := by
  cases r with
  | tup ht hs =>
    cases hs with
    | cons a t => cases t with
      | cons b t => cases t; cases a; cases b; exact ⟨_, rfl, sameT s ht⟩
def unD : D → Int × Int | .tup [.int a, .int b] => (a, b) | _ => (0, 0)
def gSrtP : List D → Option CC
  | [.lst xs] => match prs xs with
    | some ks => if ks.length < 64 ∧ ∀ k ∈ ks, (0 ≤ k.1 ∧ k.1 < 1000) ∧ 0 ≤ k.2 ∧ k.2 < 1000 then some (.lst ((srtP ks).map pD)) else none
    | none => none
  | _ => none
/-! ### C.m(..), m a classmethod that raises -/
section
variable {X : Cx} {CX : CXT} {k : Nat} {f q : Addr} {fd : FuncData} {ps : List Str} {x m : Str} {p pos apos : Pos} {e o : Expr} {es : List Expr} {n : Nat} {G : Fn} {as : List AE} {mc : Value} {sp : Sp}
def tCMS (C : Addr) (sp : Sp) (E : L2.St → XK) (ta : TE) (t : TA) : TE := fun σ H Q => ta σ H fun x H1 => x = .ref C ∧ t σ H1 fun vs H2 => sp (.ref C :: vs) H2 Q (E σ)
def evCallCS (n : Nat) (G : Fn) (c : Cl) (as : List AE) : Ev := bnd (evAs as) fun ar => callG n G (.d (.cl c) :: ar)
end
/-! ### xs[e], xs a cell that e leaves as it is, though it may change others -/
def evIxL (j : Nat) (e : Ev) : Ev := bnd (isL j) fun _ => bnd (dat e) fun d => fun ρ => match d, ρ[j]? with
  | .int i, some (.cel _ (.lst xs)) => (match atI xs i with | some z => some (.ok (.d z), ρ) | none => none)
  | _, _ => none
/-! ### list(range(a, b)), sorted(set(xs)) -/
def evLstRg (fa fb : Ev) : Ev := bnd (dat fa) fun x => bnd (dat fb) fun y => match x, y with
  | .int i, .int j => if -(2 ^ 62) ≤ i ∧ i < 2 ^ 62 ∧ -(2 ^ 62) ≤ j ∧ j < 2 ^ 62 ∧ (j - i).toNat ≤ 2 ^ 24 then pur (.c (.lst (rngD i (j - i).toNat))) else fai
  | _, _ => fai
def insI (k : Int) : List Int → List Int
  | [] => [k]
  | x :: r => if k < x then k :: x :: r else if k = x then x :: r else x :: insI k r
def srtI : List Int → List Int
  | [] => []
  | k :: r => insI k (srtI r)
def evSrtSt (fe : Ev) : Ev := bnd (dat fe) fun d => match d with
  | .lst xs => (match D.ints xs with | some ns => if ns.length ≤ 60 then pur (.c (.lst ((srtI ns).map .int))) else fai | none => fai)
  | _ => fai
/-! ### a global that is a tuple of constants -/
def KTup (K : PySem.W.Frag) (a : Addr) (xs : List V) : Prop := ∃ (o : Obj) (its : Array Value) (n : Nat), K.lookup a = some o ∧ o.cls = .type "tuple" ∧ o.data = .seq its n ∧ its.size ≤ sizeLine ∧ Vals xs its.toList
def cstV : D → Option V | .int i => some (.int i) | .str s => some (.str s) | .bl b => some (.bl b) | .non => some .non | _ => none
def cstVs : List D → Option (List V) | [] => some [] | d :: ds => (cstV d).bind fun v => (cstVs ds).map (v :: ·)
/-! ### o(..), o an own object with __call__ -/
section
variable {X : Cx} {CX : CXT} {k : Nat} {f : Addr} {fd : FuncData} {ps : List Str} {x : Str} {p pos : Pos} {e : Expr} {es : List Expr} {n : Nat} {G : Fn} {as : List AE}
end
end PL
end
section
namespace SCS
open PySem PySem.Spec PyProof.Rows L2
/-! sorted(a set of ints), any number of them -/
section
variable {w : World} {P : Program} {A : Around} {s : Shared} {E : Value → Shared → Prop} {a : Addr} {S : Int → Bool} {n : Nat} {Q : Value → Shared → Prop}
end
section
variable {X : Cx}
def rSrtI (w : World) : List V → Hp → VK → Prop := fun vs H Q => ∃ (a : Addr) (S : Int → Bool) (n : Nat), vs = [V.ref a] ∧ H a = some (SetO w a S n) ∧ n < scanBound ∧ ∀ (ns : List Int) (p : Addr), ns.Pairwise (· < ·) → (∀ k, k ∈ ns ↔ S k = true) → H p = none → Q (.ref p) (upd H p (.lst (ns.map V.int)))
end
end SCS
end
section
namespace SC2
open PySem PySem.Spec PyProof.Rows L2
/-! {x for a in p if .. for b in q if ..}, x an int -/
abbrev two (x a p : Expr) (fs : List Expr) (b q : Expr) (gs : List Expr) (sc : Scope) (w : Pos) : Expr := .SetComp x [⟨a, p, fs, 0⟩, ⟨b, q, gs, 0⟩] sc w
/-- a loop over J from τ: body is what a turn does whose tests hold; out: what is true behind it -/
def Go (J : It) (g : TG) (tt : TT) (vs : List Nat) (τ : L2.St) (body : L2.St → Hp → (Hp → Prop) → Prop) (out : Hp → Prop) (G0 : Hp) : Prop := ∃ W : Nat → Nat → Hp → Prop, (∃ m, W 0 m G0) ∧ ∀ i m G, W i m G → (J.stop i G ∧ out G) ∨ (J.go i G ∧ ∃ N : Hp → Prop, (∀ G', N G' → ∃ m', m' < m ∧ W (i + 1) m' G') ∧
  ∀ u G', J.yld i G u G' → g u (wipe τ vs) G' fun τ2 G2 => wipe τ2 vs = wipe τ vs ∧ tt τ2 G2 fun yes G3 => if yes = true then body τ2 G3 N else N G3)
def AddTo (w : World) (D : Addr) (y : V) (G : Hp) (N : Hp → Prop) : Prop := ∃ (k : Int) (S : Int → Bool) (n : Nat), y = .int k ∧ G D = some (SetO w D S n) ∧ n + 1 < scanBound ∧ N (upd G D (SetO w D (fun j => S j || decide (j = k)) (if S k = true then n else n + 1)))
def tSc2 (w : World) (wi : TI) (g : TG) (tt : TT) (wi1 : TI) (g1 : TG) (tt1 : TT) (te : TE) (vs vs1 : List Nat) : TE := fun σ H Q => wi σ H fun J H1 => ∀ D, H1 D = none →
  Go J g tt vs σ (fun τ G N => wi1 τ G fun J1 G1 => Go J1 g1 tt1 vs1 τ (fun τ1 G2 N1 => te τ1 G2 fun y G3 => AddTo w D y G3 N1) N G1) (fun G => Q (.ref D) G) (upd H1 D (SetO w D (fun _ => false) 0))
section
variable {Y : Cx} {pins : List (Addr × Obj)} {τ : L2.St} {G : Hp} {z : Shared} {tg : Expr} {J : It} {fp : List Addr} {it D : Addr} {tn : Nat → Heap → Prop} {g : TG} {tt : TT} {vs : List Nat} {fs : List Expr}
/-- one loop: where it stands, how it goes on -/
structure Here (Y : Cx) (pins : List (Addr × Obj)) (τ : L2.St) (tn : Nat → Heap → Prop) (fp : List Addr) (W : Nat → Nat → Hp → Prop) (m : Nat) (z : Shared) (i : Nat) (G : Hp) : Prop where
  inv : Inv Y pins τ G z
  st : tn i z.heap
  dark : ∀ b ∈ fp, G b = none
  w : W i m G
theorem Here.feet {W : Nat → Nat → Hp → Prop} {m i : Nat} (h : Here Y pins τ tn fp W m z i G) {G0 : Hp} (f : ∀ b ∈ fp, FpOk Y pins G0 b) : ∀ b ∈ fp, FpOk Y pins G b := fun b hb => ⟨h.dark b hb, (f b hb).2⟩
/-- a turn's item is there and stored, its tests are done -/
theorem item {W : Nat → Nat → Hp → Prop} {m i : Nat} {body : L2.St → Hp → (Hp → Prop) → Prop} {G0 : Hp} {R : Option Value → Shared → Prop} {no : Value → Shared → Prop} (calm : Y.calm = true) (T : Turn Y.prog Y.w Y.K tg J fp it tn) (f : ∀ b ∈ fp, FpOk Y pins G0 b) (pg : PG Y tg g) (pt : PTs Y fs tt) (hx : Y.xe = fun _ _ => False)
    (h : Here Y pins (wipe τ vs) tn fp W m z i G) (go : J.go i G) {N : Hp → Prop} (next : ∀ G', N G' → ∃ m', m' < m ∧ W (i + 1) m' G') (step : ∀ u G', J.yld i G u G' → g u (wipe τ vs) G' fun τ2 G2 => wipe τ2 vs = wipe τ vs ∧ tt τ2 G2 fun yes G3 => if yes = true then body τ2 G3 N else N G3)
    (k : ∀ u z1, wpAny (model Y.prog Y.w) Y.A (letOwnedTupleGo tg (.ref it) u) (fun _ z2 => wpAny (model Y.prog Y.w) Y.A (assign tg Y.env u) (fun _ z3 => wpAny (model Y.prog Y.w) Y.A (forIn fs true fun c r => if r = true then do let ok ← isTrue c Y.env (eval c Y.env); pure (ForInStep.yield ok) else pure (ForInStep.yield r)) (fun yes z4 =>
        ∃ (zs : Shared) (τ2 : L2.St) (G2 G3 : Hp), (∀ b ∈ fp, ∃ o, zs.heap.get? b = some o) ∧ (∀ h', (∀ b ∈ fp, ∀ o, zs.heap.get? b = some o → h'.get? b = some o) → tn (i + 1) h') ∧ wipe τ2 vs = wipe τ vs ∧ Inv Y (pins ++ pinsAt fp zs.heap) τ2 G3 z4 ∧ (if yes = true then body τ2 G3 N else N G3)) no z3) no z2) no z1 → R (some u) z1) : wpAny (model Y.prog Y.w) Y.A (pyNext (.ref it)) R no z := by
  have none' : ∀ {e : Value} {y : Shared} {P : Prop}, Y.xe e y → P := fun {e y P} h => (show False from by rw [hx] at h; exact h).elim
  refine wpAny_mono (T.item Y rfl rfl rfl calm i pins z _ G (fun _ _ => False) h.inv (h.feet f) h.st go) ?_ fun _ _ n => n.elim
  rintro _ z1 ⟨u, rfl, h1⟩
  refine k u z1 (wpAny_mono h1 ?_ fun _ _ n => n.elim)
  rintro _ z2 ⟨x, G2, I2, r2, y2, st2, d2⟩
  have I3 := I2.pinned (fun b hb => ⟨d2 b hb, (f b hb).2⟩) (T.obj _ _ st2)
  refine wpAny_mono (pg.run _ z2 _ G2 x u _ I3 r2 (step x G2 y2)) ?_ fun _ _ n => none' n
  rintro _ z3 ⟨τ2, G4, I4, ew, q4⟩
  refine wpAny_mono (pt.run _ z3 τ2 G4 _ I4 q4) ?_ fun _ _ n => none' n
  rintro yes z4 ⟨G5, I5, q5⟩
  exact ⟨z2, τ2, G4, G5, fun b hb => (T.obj _ _ st2 b hb).imp fun _ e => e.1, fun h' kp => T.keep _ _ _ st2 kp, ew, I5, q5⟩
end
/-- the parts, wherever the block begins -/
structure Sides (X : Cx) (sc : Scope) (x a : Expr) (fs : List Expr) (b q : Expr) (gs : List Expr) (g : TG) (tt : TT) (wi1 : TI) (g1 : TG) (tt1 : TT) (te : TE) : Prop where
  hg : ∀ t G C cl fp, PG (X.blk t G sc (compEnvC sc cl C X.env) fp) a g
  ht : ∀ t G C cl fp, PTs (X.blk t G sc (compEnvC sc cl C X.env) fp) fs tt
  hi : ∀ t G C cl fp, PI (X.blk t G sc (compEnvC sc cl C X.env) fp) b q wi1
  hg1 : ∀ t G C cl fp, PG (X.blk t G sc (compEnvC sc cl C X.env) fp) b g1
  ht1 : ∀ t G C cl fp, PTs (X.blk t G sc (compEnvC sc cl C X.env) fp) gs tt1
  he : ∀ t G C cl fp, PE (X.blk t G sc (compEnvC sc cl C X.env) fp) x te
section
variable {X : Cx} {H : Hp} {pins : List (Addr × Obj)} {s : Shared} {σ : L2.St}
end
end SC2
end
section
namespace PL
open PySem PySem.Spec PyProof.Rows L2 SC2
variable {K : PySem.W.Frag} {ct : CT} {fr : Fr} {F H : Hp} {σ : L2.St} {ρ : List Sl} {W : WX} {X : Cx}
/-! ### r = range(a, b), then ys = sorted({e for x in xs if .. for y in r if ..}) -/
/-- the walk over a range that stands somewhere -/
def iRngO (te : TE) : TI := fun σ H R => te σ H fun x H1 => ∃ (p : Addr) (lo hi : Int), x = .ref p ∧ H1 p = some (.rng lo hi) ∧ (-(2 ^ 62) ≤ lo ∧ lo < 2 ^ 62 ∧ -(2 ^ 62) ≤ hi ∧ hi < 2 ^ 62) ∧ R (Itr lo (hi - lo).toNat) H1
def tRngV (ta : TA) : TE := fun σ H Q => ta σ H fun vs H1 => ∃ i j : Int, vs = [.int i, .int j] ∧ ∀ q, H1 q = none → Q (.ref q) (upd H1 q (.rng i j))
def evSc2 (vs : List Nat) (it : M (List D)) (tg : Tg) (c : M Bool) (lo hi : Int) (vs1 : List Nat) (tg1 : Tg) (c1 : M Bool) (e : Ev) : Ev := bnd (evLc2 vs it tg c (pur (rngD lo (hi - lo).toNat)) vs1 tg1 c1 e) fun r => match r with
  | .c (.lst xs) => (match D.ints xs with | some ns => if ns.length < 4000 then pur (.c (.lst ((srtI ns).map .int))) else fai | none => fai)
  | _ => fai
def evRng2 (i : Nat) (fa fb : Ev) (k : Int → Int → M Fl) : M Fl := bnd (dat fa) fun x => bnd (dat fb) fun y => match x, y with
  | .int lo, .int hi => if -(2 ^ 62) ≤ lo ∧ lo < 2 ^ 62 ∧ -(2 ^ 62) ≤ hi ∧ hi < 2 ^ 62 then (fun ρ => match ρ[i]? with
    | some (.cel .par _) => none
    | some _ => k lo hi (ρ.set i .un)
    | none => none) else fai
  | _, _ => fai
/-- what the set holds, and how many they are at most -/
def InSet (Sx : Int → Bool) (n : Nat) (acc : List D) : Prop := (∀ k, Sx k = true ↔ D.int k ∈ acc) ∧ n ≤ acc.length
theorem Sat.seq {D : Ends} {s t : M Fl} (h : Sat K ct W D fr F ρ (evSeq s t)) : Sat K ct W { D with nx := TSt K ct W t D } fr F ρ s := by
  obtain ⟨r, ρ', e, q⟩ := h
  unfold evSeq at e
  cases es : s ρ with
  | none => rw [es] at e; cases e
  | some x =>
    obtain ⟨r1, ρ1⟩ := x
    rw [es] at e
    refine ⟨r1, ρ1, es, ?_⟩
    cases r1 with
    | er c pl => cases e; exact q
    | ok fl =>
      cases fl with
      | nx => exact fun σ1 F1 H1 s1 S1 => ⟨fr, F1, ρ1, S1, Sat.mono ⟨r, ρ', e, q⟩ s1⟩
      | bk => cases e; exact q
      | ct => cases e; exact q
      | rt x => cases e; exact q
theorem Sat.asgT {D : Ends} {j : Nat} {m : Ev} (h : Sat K ct W D fr F ρ (evAsg j m)) : Tat K ct (RV K ct.ad) W fr F ρ m σ fun y H2 => D.nx (σ.set j (some y)) H2 := by
  obtain ⟨r, ρ', e, q⟩ := h
  have fin : ∀ {d : PL.D} {ρ1 : List Sl}, PL.setD j d ρ1 = some (r, ρ') → ∀ v F' H', Same F F' → Rel K ct fr F' H' σ ρ1 → Rp K ct.ad F' v d → D.nx (σ.set j (some v)) H' := fun {d ρ1} e v F' H' s' S' r' => by
    have e9 := e
    unfold PL.setD at e
    split at e
    · cases e
    · cases e
      exact q _ F' H' s' (setD_ok e9 S' r')
    · cases e
  unfold evAsg PL.bnd PL.dat PL.bnd at e
  cases em : m ρ with
  | none => rw [em] at e; cases e
  | some x =>
    obtain ⟨r1, ρ1⟩ := x
    rw [em] at e
    refine ⟨r1, ρ1, em, ?_⟩
    cases r1 with
    | er c pl => cases e; exact fun d F' H' s' S' pr => q σ d F' H' s' S' pr
    | ok a =>
      cases a with
      | d d => exact fun v F' H' s' S' r' => fin e v F' H' s' S' r'
      | c c =>
        refine fun v F' H' s' S' ⟨a, ev, fp⟩ => ?_
        subst ev
        cases ef : c.froz with
        | none =>
          have e : PL.bnd (PL.opt c.froz) (fun d => PL.setD j d) ρ1 = some (r, ρ') := e
          rw [ef] at e
          cases e
        | some d =>
          have e : PL.bnd (PL.opt c.froz) (fun d => PL.setD j d) ρ1 = some (r, ρ') := e
          rw [ef] at e
          obtain ⟨F2, s2, rp, S2⟩ := fp.frz S' ef
          exact fin e _ F2 H' (s'.trans s2) S2 rp
/-- a new list, or data: the slot keeps which -/
def evAsgX (i : Nat) (e : Ev) : M Fl := bnd e fun r => match r with | .c c => PL.setC i c | .d d => PL.setD i d
end PL
end
section
namespace PL
open PySem PySem.Spec PyProof.Rows L2
variable {K : PySem.W.Frag} {ct : CT} {W : WX} {X : Cx}
/-! ### methods of texts that only read: find, rfind -/
variable (K ct) in
def OSm (r : V → List V → Hp → VK → Prop) (g : Str → List D → Option D) : Prop := ∀ {F H : Hp} {a : Str} {vs : List V} {ds : List D} {z : D} {Q : VK}, Rps K ct.ad F vs ds → g a ds = some z → (∀ v, Rp K ct.ad F v z → Q v H) → r (.str a) vs H Q
def evTxm (g : Str → List D → Option D) (o : Ev) (es : List DE) : Ev := bnd (dat o) fun x => match x with
  | .str a => bnd (evDs es) fun ds => opt ((g a ds).map Rv.d)
  | _ => fai
def gFind1 (a : Str) : List D → Option D | [.str b] => some (.int (Txt.find a b)) | _ => none
def gFind3 (a : Str) : List D → Option D | [.str b, .int i] => some (.int (Txt.find3 a b i)) | _ => none
def gRfind4 (a : Str) : List D → Option D | [.str b, .int i, .int j] => some (.int (Txt.rfindIn a b i j)) | _ => none
end PL
end
section
namespace PL
open PySem PySem.Spec PyProof.Rows L2
variable {K : PySem.W.Frag} {ad : Cl → Addr} {ct : CT}
variable {fr : Fr} {F F' H H' : Hp} {σ : L2.St} {ρ : List Sl} {W : WX}
/-! ### a look that lets an exception out and gives back a new object -/
def Rv.lfreeO : Rv → Bool
  | .d x => x.lfree
  | .c (.lst xs) => D.lfrees xs
  | .c (.obj _ kvs) => D.lfrees (kvs.map (·.2))
  | _ => false
def plfree : Option D → Bool
  | none => true
  | some d => d.lfree
def lookE (j : Nat) (m : Ev) : Ev := fun ρ => match ρ[j]? with
  | some (.cel _ (.lst xs)) => (match m (lkS j xs 0 ρ) with
    | some (.ok r, _) => if Rv.lfreeO r then some (.ok r, ρ) else none
    | some (.er c pl, _) => if plfree pl then some (.er c pl, ρ) else none
    | none => none)
  | _ => none
end PL
end
section
namespace PL
open PySem PySem.Spec PyProof.Rows L2
variable {K : PySem.W.Frag} {ct : CT} {W : WX} {X : Cx} {σ : L2.St} {H : Hp}
/-! an operator of own objects that may raise -/
def evOwn2S (n : Nat) (G : Fn) (c : Cl) (a b : Ev) : Ev := bnd (dat a) fun d => match d with
  | .obj c' xs => if c' = c then bnd (dat b) fun d2 => (match d2 with
      | .obj c2 ys => if c2 = c then callG n G [.d (.obj c xs), .d (.obj c ys)] else fai
      | _ => fai) else fai
  | _ => fai
section
variable {CX : CXT} {k : Nat} {C f : Addr} {fd : FuncData} {ps : List Str} {sp : Sp} {E : L2.St → XK} {ta tb : TE} {a b : Expr} {pos : Pos}
end
section
variable {k n : Nat} {f : Addr} {fd : FuncData} {ps : List Str} {G : Fn} {pos : Pos} {fa fb : Ev}
end
end PL
end
section
namespace PL
open PySem PySem.Spec PyProof.Rows L2
/-! ### what a pure term gives: K behind its value, X behind its exception -/
abbrev XC := Cl → Option D → List Sl → Prop
def Y0 {α : Type} (m : M α) (ρ : List Sl) (K : α → List Sl → Prop) (X : XC) : Prop := match m ρ with
  | some (.ok a, ρ1) => K a ρ1
  | some (.er c pl, ρ1) => X c pl ρ1
  | none => False
abbrev NX : XC := fun _ _ _ => False
section
variable {α β : Type} {ρ : List Sl} {X X' : XC}
theorem Y0.mono {m : M α} {K K' : α → List Sl → Prop} (h : Y0 m ρ K X) (k : ∀ a ρ1, K a ρ1 → K' a ρ1) (x : ∀ c pl ρ1, X c pl ρ1 → X' c pl ρ1) : Y0 m ρ K' X' := by
  unfold Y0 at h ⊢
  split
  · rename_i e; rw [e] at h; exact k _ _ h
  · rename_i e; rw [e] at h; exact x _ _ _ h
  · rename_i e; rw [e] at h; exact h
theorem Y0.mk {m : M α} {K : α → List Sl → Prop} (h : Y0 m ρ K NX) : ∃ a ρ1, m ρ = some (.ok a, ρ1) ∧ K a ρ1 := by
  unfold Y0 at h
  split at h
  · exact ⟨_, _, ‹_›, h⟩
  · exact h.elim
  · exact h.elim
theorem Y0.of {m : M α} {K : α → List Sl → Prop} {a : α} {ρ1 : List Sl} (e : m ρ = some (.ok a, ρ1)) (h : K a ρ1) : Y0 m ρ K X := by unfold Y0; rw [e]; exact h
variable {K : α → List Sl → Prop}
theorem Y0_pur {a : α} : Y0 (pur a) ρ K X = K a ρ := id rfl
theorem Y0_fai : Y0 (fai : M α) ρ K X = False := id rfl
theorem Y0_bnd {m : M β} {k : β → M α} : Y0 (bnd m k) ρ K X = Y0 m ρ (fun a ρ1 => Y0 (k a) ρ1 K X) X := by
  unfold Y0 bnd
  cases m ρ with
  | none => rfl
  | some x => obtain ⟨r, ρ1⟩ := x; cases r <;> rfl
theorem Y0_opt {o : Option α} : Y0 (opt o) ρ K X = ∃ a, o = some a ∧ K a ρ := by
  cases o with
  | none => exact propext ⟨fun h => h.elim, fun ⟨_, e, _⟩ => by cases e⟩
  | some a => exact propext ⟨fun h => ⟨a, rfl, h⟩, fun ⟨_, e, h⟩ => by cases e; exact h⟩
theorem Y0_noEr {m : M α} : Y0 (noEr m) ρ K X = Y0 m ρ K NX := by
  unfold Y0 noEr
  cases m ρ with
  | none => rfl
  | some x => obtain ⟨r, ρ1⟩ := x; cases r <;> rfl
theorem Y0_if {c : Prop} [Decidable c] {a b : M α} : Y0 (if c then a else b) ρ K X = if c then Y0 a ρ K X else Y0 b ρ K X := by split <;> rfl
theorem ex_if {γ : Type} {c : Prop} [Decidable c] {a : γ} {P : γ → Prop} : (∃ z, (if c then some a else none) = some z ∧ P z) = (c ∧ P a) := by
  by_cases h : c
  · rw [if_pos h]; exact propext ⟨fun ⟨z, e, p⟩ => by cases e; exact ⟨h, p⟩, fun ⟨_, p⟩ => ⟨a, rfl, p⟩⟩
  · rw [if_neg h]; exact propext ⟨fun ⟨z, e, _⟩ => (by cases e), fun z => (h z.1).elim⟩
theorem ex_so {γ : Type} {a : γ} {P : γ → Prop} : (∃ z, some a = some z ∧ P z) = P a := propext ⟨fun ⟨z, e, p⟩ => by cases e; exact p, fun p => ⟨a, rfl, p⟩⟩
end
section
variable {ρ : List Sl} {X : XC} {K : Rv → List Sl → Prop} {KD : D → List Sl → Prop} {KB : Bool → List Sl → Prop} {KF : Fl → List Sl → Prop} {m a b c : Ev} {s t : M Fl} {u v : M Bool} {i j n : Nat}
theorem Y0_vD {d : D} : Y0 (vD d) ρ K X = K (.d d) ρ := id rfl
theorem Y0_evV : Y0 (evV i) ρ K X = match ρ[i]? with | some (.dat d) => K (.d d) ρ | _ => False := by
  unfold Y0 evV
  cases ρ[i]? with
  | none => rfl
  | some s => cases s <;> rfl
theorem Y0_evF : Y0 (evF i) ρ K X = match ρ[i]? with | some (.dat d) => K (.d d) ρ | some (.cel .own c) => (match c.froz with | some d => K (.d d) (ρ.set i (.dat d)) | none => False) | _ => False := by
  unfold Y0 evF
  cases ρ[i]? with
  | none => rfl
  | some s =>
    cases s with
    | cel k c => cases k with
      | par => rfl
      | own => dsimp only; cases c.froz <;> rfl
    | _ => rfl
theorem Y0_evM : Y0 (evM i) ρ K X = match ρ[i]? with | some (.dat d) => K (.d d) ρ | some (.cel .own c) => K (.c c) (ρ.set i .un) | _ => False := by
  unfold Y0 evM
  cases ρ[i]? with
  | none => rfl
  | some s =>
    cases s with
    | cel k c => cases k <;> rfl
    | _ => rfl
theorem Y0_dat : Y0 (dat m) ρ KD X = Y0 m ρ (fun r ρ1 => match r with | .d d => KD d ρ1 | .c c => ∃ d, c.froz = some d ∧ KD d ρ1) X := by
  unfold dat
  rw [Y0_bnd]
  congr 1
  funext r ρ1
  cases r with
  | d d => rfl
  | c c => exact Y0_opt
theorem Y0_tst : Y0 (tst m) ρ KB X = Y0 (dat m) ρ (fun d ρ1 => match d with | .bl b => KB b ρ1 | _ => False) X := by
  unfold tst
  rw [Y0_bnd]
  congr 1
  funext d ρ1
  cases d <;> rfl
theorem Y0_ev2 {g : D → D → Option D} : Y0 (ev2 g a b) ρ K X = Y0 (dat a) ρ (fun x ρ1 => Y0 (dat b) ρ1 (fun y ρ2 => ∃ z, g x y = some z ∧ K (.d z) ρ2) X) X := by
  unfold ev2
  rw [Y0_bnd]
  congr 1; funext x ρ1
  rw [Y0_bnd]
  congr 1; funext y ρ2
  rw [Y0_opt]
  exact propext ⟨fun ⟨r, e, k⟩ => by obtain ⟨z, e1, e2⟩ := map_some e; subst e2; exact ⟨z, e1, k⟩, fun ⟨z, e, k⟩ => ⟨_, by rw [e]; rfl, k⟩⟩
theorem Y0_ev2c {g : D → D → Option CC} : Y0 (ev2c g a b) ρ K X = Y0 (dat a) ρ (fun x ρ1 => Y0 (dat b) ρ1 (fun y ρ2 => ∃ z, g x y = some z ∧ K (.c z) ρ2) X) X := by
  unfold ev2c
  rw [Y0_bnd]
  congr 1; funext x ρ1
  rw [Y0_bnd]
  congr 1; funext y ρ2
  rw [Y0_opt]
  exact propext ⟨fun ⟨r, e, k⟩ => by obtain ⟨z, e1, e2⟩ := map_some e; subst e2; exact ⟨z, e1, k⟩, fun ⟨z, e, k⟩ => ⟨_, by rw [e]; rfl, k⟩⟩
theorem Y0_ev1 {g : D → Option D} : Y0 (ev1 g a) ρ K X = Y0 (dat a) ρ (fun x ρ1 => ∃ z, g x = some z ∧ K (.d z) ρ1) X := by
  unfold ev1
  rw [Y0_bnd]
  congr 1; funext x ρ1
  rw [Y0_opt]
  exact propext ⟨fun ⟨r, e, k⟩ => by obtain ⟨z, e1, e2⟩ := map_some e; subst e2; exact ⟨z, e1, k⟩, fun ⟨z, e, k⟩ => ⟨_, by rw [e]; rfl, k⟩⟩
theorem Y0_seq : Y0 (evSeq s t) ρ KF X = Y0 s ρ (fun f ρ1 => match f with | .nx => Y0 t ρ1 KF X | f => KF f ρ1) X := by
  unfold Y0 evSeq
  cases s ρ with
  | none => rfl
  | some x => obtain ⟨r, ρ1⟩ := x; cases r with
    | ok f => cases f <;> rfl
    | er c pl => rfl
theorem Y0_evIf : Y0 (evIf u s t) ρ KF X = Y0 u ρ (fun c ρ1 => if c = true then Y0 s ρ1 KF X else Y0 t ρ1 KF X) X := by
  unfold evIf
  rw [Y0_bnd]
  congr 1; funext c ρ1
  exact Y0_if
theorem Y0_tNo : Y0 (tNo u) ρ KB X = Y0 u ρ (fun c ρ1 => KB (!c) ρ1) X := by unfold tNo; rw [Y0_bnd]; rfl
theorem Y0_tAn : Y0 (tAn u v) ρ KB X = Y0 u ρ (fun c ρ1 => if c = true then Y0 v ρ1 KB X else KB false ρ1) X := by
  unfold tAn; rw [Y0_bnd]; congr 1; funext c ρ1; cases c <;> rfl
theorem Y0_tOo : Y0 (tOo u v) ρ KB X = Y0 u ρ (fun c ρ1 => if c = true then KB true ρ1 else Y0 v ρ1 KB X) X := by
  unfold tOo; rw [Y0_bnd]; congr 1; funext c ρ1; cases c <;> rfl
theorem Y0_vNo : Y0 (vNo m) ρ K X = Y0 (tst m) ρ (fun c ρ1 => K (.d (.bl (!c))) ρ1) X := by unfold vNo; rw [Y0_bnd]; rfl
theorem Y0_vAn : Y0 (vAn a b) ρ K X = Y0 (tst a) ρ (fun c ρ1 => if c = true then Y0 (dat b) ρ1 (fun d ρ2 => K (.d d) ρ2) X else K (.d (.bl false)) ρ1) X := by
  unfold vAn; rw [Y0_bnd]; congr 1; funext c ρ1; cases c
  · rfl
  · simp only [if_true]; rw [Y0_bnd]; rfl
theorem Y0_vOo : Y0 (vOo a b) ρ K X = Y0 (tst a) ρ (fun c ρ1 => if c = true then K (.d (.bl true)) ρ1 else Y0 (dat b) ρ1 (fun d ρ2 => K (.d d) ρ2) X) X := by
  unfold vOo; rw [Y0_bnd]; congr 1; funext c ρ1; cases c
  · simp only [Bool.false_eq_true, if_false]; rw [Y0_bnd]; rfl
  · rfl
theorem Y0_vIf : Y0 (vIf u a b) ρ K X = Y0 u ρ (fun c ρ1 => if c = true then Y0 a ρ1 K X else Y0 b ρ1 K X) X := by
  unfold vIf; rw [Y0_bnd]; congr 1; funext c ρ1; exact Y0_if
theorem ex_bl {o : Option D} {P : D → Prop} {Q : Bool → Prop} (h : ∀ b, P (.bl b) = Q b) (h2 : ∀ z, (∀ b, z ≠ .bl b) → P z = False) : (∃ z, o = some z ∧ P z) = ∃ b, o = some (.bl b) ∧ Q b :=
  propext ⟨fun ⟨z, e, p⟩ => by
    cases z with
    | bl b => exact ⟨b, e, by rw [← h]; exact p⟩
    | _ => rw [h2 _ (fun b q => by cases q)] at p; exact p.elim, fun ⟨b, e, p⟩ => ⟨_, e, by rw [h]; exact p⟩⟩
theorem Y0_ch2 {g g' : D → D → Option D} : Y0 (ch2 g g' a b c) ρ K X = Y0 (dat a) ρ (fun x ρ1 => Y0 (dat b) ρ1 (fun y ρ2 => ∃ z, g x y = some (.bl z) ∧ if z = true then Y0 (dat c) ρ2 (fun w ρ3 => ∃ z2, g' y w = some z2 ∧ K (.d z2) ρ3) X else K (.d (.bl false)) ρ2) X) X := by
  unfold ch2
  rw [Y0_bnd]; congr 1; funext x ρ1
  rw [Y0_bnd]; congr 1; funext y ρ2
  rw [Y0_bnd, Y0_opt]
  refine ex_bl (fun k => ?_) (fun z h => ?_)
  · cases k
    · rfl
    · dsimp only
      rw [if_pos rfl, Y0_bnd]; congr 1; funext w ρ3
      rw [Y0_opt]
      exact propext ⟨fun ⟨r, e, k⟩ => by obtain ⟨z, e1, e2⟩ := map_some e; subst e2; exact ⟨z, e1, k⟩, fun ⟨z, e, k⟩ => ⟨_, by rw [e]; rfl, k⟩⟩
  · cases z <;> first | rfl | exact absurd rfl (h _)
theorem Y0_ch3 {g g' g'' : D → D → Option D} {d : Ev} : Y0 (ch3 g g' g'' a b c d) ρ KB X = Y0 (dat a) ρ (fun x ρ1 => Y0 (dat b) ρ1 (fun y ρ2 => ∃ z, g x y = some (.bl z) ∧ if z = true then Y0 (dat c) ρ2 (fun w ρ3 => ∃ z2, g' y w = some (.bl z2) ∧ if z2 = true then Y0 (dat d) ρ3 (fun q ρ4 => ∃ z3, g'' w q = some (.bl z3) ∧ KB z3 ρ4) X else KB false ρ3) X else KB false ρ2) X) X := by
  unfold ch3
  rw [Y0_bnd]; congr 1; funext x ρ1
  rw [Y0_bnd]; congr 1; funext y ρ2
  rw [Y0_bnd, Y0_opt]
  refine ex_bl (fun k => ?_) (fun z h => ?_)
  · cases k
    · rfl
    · dsimp only
      rw [if_pos rfl, Y0_bnd]; congr 1; funext w ρ3
      rw [Y0_bnd, Y0_opt]
      refine ex_bl (fun k => ?_) (fun z h => ?_)
      · cases k
        · rfl
        · dsimp only
          rw [if_pos rfl, Y0_bnd]; congr 1; funext w ρ3
          rw [Y0_bnd, Y0_opt]
          refine ex_bl (fun k => rfl) (fun z h => ?_)
          cases z <;> first | rfl | exact absurd rfl (h _)
      · cases z <;> first | rfl | exact absurd rfl (h _)
  · cases z <;> first | rfl | exact absurd rfl (h _)
/-- a slot that may be set -/
def canSet : Sl → Bool | .cel .par _ => false | _ => true
theorem Y0_setD {d : D} : Y0 (setD i d) ρ KF X = ∃ s, ρ[i]? = some s ∧ canSet s = true ∧ KF .nx (ρ.set i (.dat d)) := by
  unfold Y0 setD
  cases ρ[i]? with
  | none => exact propext ⟨fun h => h.elim, fun ⟨_, e, _⟩ => by cases e⟩
  | some s =>
    have go : ∀ {P : Prop}, canSet s = true → (P = ∃ s', some s = some s' ∧ canSet s' = true ∧ P) := fun {P} z => propext ⟨fun h => ⟨s, rfl, z, h⟩, fun ⟨_, _, _, h⟩ => h⟩
    cases s with
    | cel k c => cases k with
      | own => exact go rfl
      | par => exact propext ⟨fun h => h.elim, fun ⟨_, e, z, _⟩ => by cases e; cases z⟩
    | _ => exact go rfl
theorem Y0_setC {d : CC} : Y0 (PL.setC i d) ρ KF X = ∃ s, ρ[i]? = some s ∧ canSet s = true ∧ KF .nx (ρ.set i (.cel .own d)) := by
  unfold Y0 PL.setC
  cases ρ[i]? with
  | none => exact propext ⟨fun h => h.elim, fun ⟨_, e, _⟩ => by cases e⟩
  | some s =>
    have go : ∀ {P : Prop}, canSet s = true → (P = ∃ s', some s = some s' ∧ canSet s' = true ∧ P) := fun {P} z => propext ⟨fun h => ⟨s, rfl, z, h⟩, fun ⟨_, _, _, h⟩ => h⟩
    cases s with
    | cel k c => cases k with
      | own => exact go rfl
      | par => exact propext ⟨fun h => h.elim, fun ⟨_, e, z, _⟩ => by cases e; cases z⟩
    | _ => exact go rfl
theorem Y0_asg : Y0 (evAsg i m) ρ KF X = Y0 (dat m) ρ (fun d ρ1 => Y0 (setD i d) ρ1 KF X) X := by unfold evAsg; rw [Y0_bnd]
theorem Y0_asgC : Y0 (evAsgC i m) ρ KF X = Y0 m ρ (fun r ρ1 => match r with | .c c => Y0 (PL.setC i c) ρ1 KF X | .d _ => False) X := by
  unfold evAsgC; rw [Y0_bnd]; congr 1; funext r ρ1; cases r <;> rfl
theorem Y0_ret : Y0 (evRet m) ρ KF X = Y0 m ρ (fun r ρ1 => KF (.rt r) ρ1) X := by unfold evRet; rw [Y0_bnd]; rfl
theorem Y0_ex : Y0 (evEx m) ρ KF X = Y0 m ρ (fun _ ρ1 => KF .nx ρ1) X := by unfold evEx; rw [Y0_bnd]; rfl
theorem Y0_nx : Y0 evNx ρ KF X = KF .nx ρ := id rfl
theorem Y0_lookE {m : Ev} {K : Rv → List Sl → Prop} : Y0 (lookE j m) ρ K X = match ρ[j]? with | some (.cel _ (.lst xs)) => Y0 m (lkS j xs 0 ρ) (fun r _ => Rv.lfreeO r = true ∧ K r ρ) (fun c pl _ => plfree pl = true ∧ X c pl ρ) | _ => False := by
  unfold Y0 lookE
  cases ρ[j]? with
  | none => rfl
  | some s => cases s with
    | cel k c => cases c with
      | lst xs =>
        dsimp only
        cases m (lkS j xs 0 ρ) with
        | none => rfl
        | some x =>
          obtain ⟨r, ρ1⟩ := x
          cases r with
          | ok a => dsimp only; cases e : Rv.lfreeO a <;> simp
          | er c pl => dsimp only; cases e : plfree pl <;> simp
      | _ => rfl
    | _ => rfl
theorem Y0_look {α : Type} {ok : α → Bool} {m : M α} {K : α → List Sl → Prop} : Y0 (look j ok m) ρ K X = match ρ[j]? with | some (.cel _ (.lst xs)) => Y0 m (lkS j xs 0 ρ) (fun r _ => ok r = true ∧ K r ρ) NX | _ => False := by
  unfold Y0 look
  cases ρ[j]? with
  | none => rfl
  | some s => cases s with
    | cel k c => cases c with
      | lst xs =>
        dsimp only
        cases m (lkS j xs 0 ρ) with
        | none => rfl
        | some x => obtain ⟨r, ρ1⟩ := x; cases r with
          | ok a => dsimp only; cases ok a <;> simp
          | er c pl => rfl
      | _ => rfl
    | _ => rfl
variable {KS : List D → List Sl → Prop} {KA : List Ar → List Sl → Prop} {es : List DE} {as : List AE}
theorem Y0_ds0 : Y0 (evDs []) ρ KS X = KS [] ρ := id rfl
theorem Y0_dsE : Y0 (evDs (.e m :: es)) ρ KS X = Y0 (dat m) ρ (fun d ρ1 => Y0 (evDs es) ρ1 (fun ds ρ2 => KS (d :: ds) ρ2) X) X := by
  show Y0 (bnd _ _) ρ KS X = _
  rw [Y0_bnd]; congr 1; funext d ρ1; rw [Y0_bnd]; rfl
theorem Y0_dsS : Y0 (evDs (.s m :: es)) ρ KS X = Y0 (dat m) ρ (fun d ρ1 => ∃ xs, d.items = some xs ∧ Y0 (evDs es) ρ1 (fun ds ρ2 => KS (xs ++ ds) ρ2) X) X := by
  show Y0 (bnd _ _) ρ KS X = _
  rw [Y0_bnd]; congr 1; funext d ρ1; rw [Y0_bnd, Y0_opt]; congr 1; funext xs; rw [Y0_bnd]; rfl
theorem Y0_B {g : List D → Option D} : Y0 (evB g es) ρ K X = Y0 (evDs es) ρ (fun ds ρ1 => ∃ z, g ds = some z ∧ K (.d z) ρ1) X := by
  unfold evB
  rw [Y0_bnd]; congr 1; funext ds ρ1; rw [Y0_opt]
  exact propext ⟨fun ⟨r, e, k⟩ => by obtain ⟨z, e1, e2⟩ := map_some e; subst e2; exact ⟨z, e1, k⟩, fun ⟨z, e, k⟩ => ⟨_, by rw [e]; rfl, k⟩⟩
theorem Y0_Bc {g : List D → Option CC} : Y0 (evBc g es) ρ K X = Y0 (evDs es) ρ (fun ds ρ1 => ∃ z, g ds = some z ∧ K (.c z) ρ1) X := by
  unfold evBc
  rw [Y0_bnd]; congr 1; funext ds ρ1; rw [Y0_opt]
  exact propext ⟨fun ⟨r, e, k⟩ => by obtain ⟨z, e1, e2⟩ := map_some e; subst e2; exact ⟨z, e1, k⟩, fun ⟨z, e, k⟩ => ⟨_, by rw [e]; rfl, k⟩⟩
theorem Y0_tup : Y0 (evTup es) ρ K X = Y0 (evDs es) ρ (fun ds ρ1 => ds.length ≤ 16777216 ∧ K (.d (.tup ds)) ρ1) X := by
  unfold evTup
  rw [Y0_bnd]; congr 1; funext ds ρ1
  rw [Y0_if]
  by_cases h : ds.length ≤ 16777216 <;> simp [h, Y0_vD, Y0_fai]
theorem Y0_lst : Y0 (evLst es) ρ K X = Y0 (evDs es) ρ (fun ds ρ1 => ds.length ≤ 16777216 ∧ K (.c (.lst ds)) ρ1) X := by
  unfold evLst
  rw [Y0_bnd]; congr 1; funext ds ρ1
  rw [Y0_if]
  by_cases h : ds.length ≤ 16777216 <;> simp [h, Y0_pur, Y0_fai]
theorem Y0_isL {P : Rv → List Sl → Prop} : Y0 (isL j) ρ P X = match ρ[j]? with | some (.cel _ (.lst _)) => P (.d .non) ρ | _ => False := by
  unfold Y0 isL
  cases ρ[j]? with
  | none => rfl
  | some s => cases s with
    | cel k c => cases c <;> rfl
    | _ => rfl
theorem Y0_modL {f : List D → Option (D × List D)} : Y0 (modL j f) ρ K X = match ρ[j]? with | some (.cel k (.lst xs)) => ∃ p, f xs = some p ∧ K (.d p.1) (ρ.set j (.cel k (.lst p.2))) | _ => False := by
  unfold Y0 modL
  cases ρ[j]? with
  | none => rfl
  | some s => cases s with
    | cel k c => cases c with
      | lst xs =>
        dsimp only
        cases f xs with
        | none => exact propext ⟨fun h => h.elim, fun ⟨_, e, _⟩ => by cases e⟩
        | some p => exact propext ⟨fun h => ⟨p, rfl, h⟩, fun ⟨_, e, h⟩ => by cases e; exact h⟩
      | _ => rfl
    | _ => rfl
theorem Y0_bmL {f : List D → List D → Option (D × List D)} : Y0 (evBmL j f es) ρ K X = match ρ[j]? with
    | some (.cel _ (.lst _)) => Y0 (evDs es) ρ (fun ds ρ1 => match ρ1[j]? with | some (.cel k (.lst xs)) => ∃ p, f xs ds = some p ∧ K (.d p.1) (ρ1.set j (.cel k (.lst p.2))) | _ => False) X
    | _ => False := by
  unfold evBmL
  rw [Y0_bnd, Y0_isL]
  simp only [Y0_bnd, Y0_modL]
theorem Y0_LstRg {a b : Ev} : Y0 (evLstRg a b) ρ K X = Y0 (dat a) ρ (fun x ρ1 => Y0 (dat b) ρ1 (fun y ρ2 => match x, y with
    | .int i, .int j => (-(2 ^ 62) ≤ i ∧ i < 2 ^ 62 ∧ -(2 ^ 62) ≤ j ∧ j < 2 ^ 62 ∧ (j - i).toNat ≤ 2 ^ 24) ∧ K (.c (.lst (rngD i (j - i).toNat))) ρ2
    | _, _ => False) X) X := by
  unfold evLstRg
  rw [Y0_bnd]; congr 1; funext x ρ1
  rw [Y0_bnd]; congr 1; funext y ρ2
  cases x <;> try rfl
  rename_i i
  cases y <;> try rfl
  rename_i j
  dsimp only
  split
  · rename_i h
    exact propext ⟨fun k => ⟨h, k⟩, fun k => k.2⟩
  · rename_i h
    exact propext ⟨fun k => k.elim, fun k => absurd k.1 h⟩
theorem Y0_SrtSt {a : Ev} : Y0 (evSrtSt a) ρ K X = Y0 (dat a) ρ (fun x ρ1 => match x with
    | .lst xs => ∃ ns, D.ints xs = some ns ∧ ns.length ≤ 60 ∧ K (.c (.lst ((srtI ns).map .int))) ρ1
    | _ => False) X := by
  unfold evSrtSt
  rw [Y0_bnd]; congr 1; funext x ρ1
  cases x <;> try rfl
  rename_i xs
  dsimp only
  cases D.ints xs with
  | none => exact propext ⟨fun k => k.elim, fun ⟨_, e, _⟩ => by cases e⟩
  | some ns =>
    dsimp only
    split
    · rename_i h
      exact propext ⟨fun k => ⟨ns, rfl, h, k⟩, fun ⟨_, e, _, k⟩ => by cases e; exact k⟩
    · rename_i h
      exact propext ⟨fun k => k.elim, fun ⟨_, e, k, _⟩ => by cases e; exact absurd k h⟩
theorem Y0_ixL : Y0 (evIxL j m) ρ K X = match ρ[j]? with
    | some (.cel _ (.lst _)) => Y0 (dat m) ρ (fun d ρ1 => match ρ1[j]? with | some (.cel _ (.lst xs)) => (match d with | .int i => ∃ z, atI xs i = some z ∧ K (.d z) ρ1 | _ => False) | _ => False) X
    | _ => False := by
  unfold evIxL
  rw [Y0_bnd, Y0_isL]
  cases ρ[j]? with
  | none => rfl
  | some s => cases s with
    | cel k c => cases c with
      | lst xs =>
        dsimp only
        rw [Y0_bnd]
        congr 1
        funext d ρ1
        unfold Y0
        dsimp only
        generalize ρ1[j]? = o
        cases o with
        | none => cases d <;> rfl
        | some s => cases s with
          | cel k c => cases c with
            | lst ys =>
              cases d <;> try rfl
              rename_i i
              dsimp only
              cases atI ys i with
              | none => exact propext ⟨fun h => h.elim, fun ⟨_, e, _⟩ => by cases e⟩
              | some z => exact propext ⟨fun h => ⟨z, rfl, h⟩, fun ⟨_, e, h⟩ => by cases e; exact h⟩
            | _ => cases d <;> rfl
          | _ => cases d <;> rfl
      | _ => rfl
    | _ => rfl
theorem Y0_setI : Y0 (evSetI j a b) ρ KF X = Y0 (dat b) ρ (fun d ρ1 => match ρ1[j]? with
    | some (.cel _ (.lst _)) => Y0 (dat a) ρ1 (fun i ρ2 => match i with
      | .int i => (match ρ2[j]? with | some (.cel k (.lst xs)) => ∃ n, ixN xs.length i = some n ∧ KF .nx (ρ2.set j (.cel k (.lst (xs.set n d)))) | _ => False)
      | _ => False) X
    | _ => False) X := by
  unfold evSetI
  rw [Y0_bnd]; congr 1; funext d ρ1
  rw [Y0_bnd, Y0_isL]
  cases ρ1[j]? with
  | none => rfl
  | some s => cases s with
    | cel k c => cases c with
      | lst xs =>
        dsimp only
        rw [Y0_bnd]
        congr 1
        funext i ρ2
        cases i with
        | int i =>
          dsimp only
          rw [Y0_bnd, Y0_modL]
          cases ρ2[j]? with
          | none => rfl
          | some s => cases s with
            | cel k c => cases c with
              | lst xs =>
                dsimp only
                cases ixN xs.length i with
                | none => exact propext ⟨fun ⟨_, e, _⟩ => (by cases e), fun ⟨_, e, _⟩ => (by cases e)⟩
                | some n => exact propext ⟨fun ⟨_, e, h⟩ => ⟨n, rfl, by cases e; exact h⟩, fun ⟨_, e, h⟩ => ⟨_, rfl, by cases e; exact h⟩⟩
              | _ => rfl
            | _ => rfl
        | _ => rfl
      | _ => rfl
    | _ => rfl
theorem Y0_as0 : Y0 (evAs []) ρ KA X = KA [] ρ := id rfl
theorem Y0_asE : Y0 (evAs (.e m :: as)) ρ KA X = Y0 (dat m) ρ (fun d ρ1 => Y0 (evAs as) ρ1 (fun ar ρ2 => KA (.d d :: ar) ρ2) X) X := by
  show Y0 (bnd _ _) ρ KA X = _
  rw [Y0_bnd]; congr 1; funext d ρ1; rw [Y0_bnd]; rfl
theorem Y0_asC : Y0 (evAs (.c j :: as)) ρ KA X = match ρ[j]? with | some (.cel _ _) => Y0 (evAs as) ρ (fun ar ρ2 => KA (.c j :: ar) ρ2) X | _ => False := by
  conv => lhs; unfold Y0 evAs
  cases h : ρ[j]? with
  | none => rfl
  | some s => cases s with
    | cel k c =>
      dsimp only
      have := Y0_bnd (ρ := ρ) (m := evAs as) (k := fun as => pur (Ar.c j :: as)) (K := KA) (X := X)
      unfold Y0 at this ⊢
      exact this
    | _ => rfl
theorem Y0_callG {G : Fn} {ar : List Ar} : Y0 (callG n G ar) ρ K X = ∃ ss, argSl ρ ar = some ss ∧ (ar.length = n ∧ (celsOf ar).Nodup) ∧ Y0 G ss (fun r ss' => K r (back ρ ar ss')) (fun c pl ss' => X c pl (back ρ ar ss')) := by
  unfold Y0 callG
  cases argSl ρ ar with
  | none => exact propext ⟨fun h => h.elim, fun ⟨_, e, _⟩ => by cases e⟩
  | some ss =>
    dsimp only
    by_cases h : ar.length = n ∧ (celsOf ar).Nodup
    · rw [if_pos h]
      refine propext ⟨fun z => ⟨ss, rfl, h, ?_⟩, fun ⟨_, e, _, z⟩ => ?_⟩
      · cases e : G ss with
        | none => rw [e] at z; exact z
        | some x => obtain ⟨r, s2⟩ := x; rw [e] at z; cases r <;> exact z
      · cases e
        cases e : G ss with
        | none => rw [e] at z; exact z
        | some x => obtain ⟨r, s2⟩ := x; rw [e] at z; cases r <;> exact z
    · rw [if_neg h]
      exact propext ⟨fun z => z.elim, fun ⟨_, _, z, _⟩ => h z⟩
theorem Y0_call {G : Fn} {ds : List D} : Y0 (evCall n G as ds) ρ K X = Y0 (evAs as) ρ (fun ar ρ1 => Y0 (callG n G (ar ++ ds.map .d)) ρ1 K X) X := by unfold evCall; rw [Y0_bnd]
theorem Y0_call0 {G : Fn} {ds : List D} : Y0 (evCall0 n G as ds) ρ K X = Y0 (evAs as) ρ (fun ar ρ1 => Y0 (callG n G (ar ++ ds.map .d)) ρ1 K NX) X := by
  unfold evCall0; rw [Y0_bnd]; congr 1; funext ar ρ1; rw [Y0_noEr]
theorem Y0_callN {G : Fn} {c : CC} {ar : List Ar} : Y0 (callN n G c ar) ρ K X = Y0 (callG n G (.c ρ.length :: ar)) (ρ ++ [.cel .own c]) (fun r ρ1 => K r (ρ1.take ρ.length)) (fun c pl ρ1 => X c pl (ρ1.take ρ.length)) := by
  unfold Y0 callN
  cases callG n G (.c ρ.length :: ar) (ρ ++ [.cel .own c]) with
  | none => rfl
  | some x => obtain ⟨r, ρ1⟩ := x; cases r <;> rfl
theorem Y0_CallN {G : Fn} {ds : List D} : Y0 (evCallN n G m as ds) ρ K X = Y0 m ρ (fun r ρ1 => match r with | .c c => Y0 (evAs as) ρ1 (fun ar ρ2 => Y0 (callN n G c (ar ++ ds.map .d)) ρ2 K X) X | .d _ => False) X := by
  unfold evCallN; rw [Y0_bnd]; congr 1; funext r ρ1
  cases r with
  | d d => rfl
  | c c => exact Y0_bnd
theorem Y0_CallN0 {G : Fn} {ds : List D} : Y0 (evCallN0 n G m as ds) ρ K X = Y0 m ρ (fun r ρ1 => match r with | .c c => Y0 (evAs as) ρ1 (fun ar ρ2 => Y0 (callN n G c (ar ++ ds.map .d)) ρ2 K NX) X | .d _ => False) X := by
  unfold evCallN0; rw [Y0_bnd]; congr 1; funext r ρ1
  cases r with
  | d d => rfl
  | c c =>
    dsimp only
    rw [Y0_bnd]; congr 1; funext ar ρ2; rw [Y0_noEr]
theorem Y0_CallC {G : Fn} {c : Cl} : Y0 (evCallC n G c as) ρ K X = Y0 (evAs as) ρ (fun ar ρ1 => Y0 (callG n G (.d (.cl c) :: ar)) ρ1 K NX) X := by
  unfold evCallC; rw [Y0_bnd]; congr 1; funext ar ρ1; rw [Y0_noEr]
theorem Y0_CallCS {G : Fn} {c : Cl} : Y0 (evCallCS n G c as) ρ K X = Y0 (evAs as) ρ (fun ar ρ1 => Y0 (callG n G (.d (.cl c) :: ar)) ρ1 K X) X := by
  unfold evCallCS; rw [Y0_bnd]
theorem Y0_mkL {G : Fn} {c : Cl} : Y0 (evMkL i n G c as) ρ K X = match ρ[i]? with | some (.dat (.cl c')) => c' = c ∧ Y0 (evMk n G c as []) ρ K X | _ => False := by
  conv => lhs; unfold Y0 evMkL
  cases ρ[i]? with
  | none => rfl
  | some s =>
    cases s with
    | dat d =>
      cases d with
      | cl c' =>
        dsimp only
        by_cases h : c' = c
        · rw [if_pos h]; exact propext ⟨fun q => ⟨h, q⟩, fun q => q.2⟩
        · rw [if_neg h]; exact propext ⟨fun q => q.elim, fun q => h q.1⟩
      | _ => rfl
    | _ => rfl
theorem Y0_BestN {f : Int → Int → Int} {es : List DE} : Y0 (evBestN f es) ρ K X = Y0 (evDs es) ρ (fun ds ρ1 => ∃ z, gBestN f ds = some z ∧ K (.d z) ρ1) X := by
  unfold evBestN
  rw [Y0_bnd]; congr 1; funext ds ρ1; rw [Y0_opt]
  exact propext ⟨fun ⟨r, e, k⟩ => by obtain ⟨z, e1, e2⟩ := map_some e; subst e2; exact ⟨z, e1, k⟩, fun ⟨z, e, k⟩ => ⟨_, by rw [e]; rfl, k⟩⟩
theorem Y0_own2 {G : Fn} {c : Cl} : Y0 (evOwn2 n G c a b) ρ K X = Y0 (dat a) ρ (fun d ρ1 => match d with
    | .obj c' xs => c' = c ∧ Y0 (dat b) ρ1 (fun d2 ρ2 => match d2 with | .obj c2 ys => c2 = c ∧ Y0 (callG n G [.d (.obj c xs), .d (.obj c ys)]) ρ2 K NX | _ => False) X
    | _ => False) X := by
  unfold evOwn2
  rw [Y0_bnd]; congr 1; funext d ρ1
  cases d <;> try rfl
  rename_i c' xs
  dsimp only
  rw [Y0_if]
  by_cases h : c' = c
  · rw [if_pos h, Y0_bnd]
    simp only [h, true_and]
    congr 1; funext d2 ρ2
    cases d2 <;> try rfl
    rename_i c2 ys
    dsimp only
    rw [Y0_if]
    by_cases h2 : c2 = c
    · rw [if_pos h2, Y0_noEr]; simp only [h2, true_and]
    · rw [if_neg h2, Y0_fai]; simp only [h2, false_and]
  · rw [if_neg h, Y0_fai]; simp only [h, false_and]
theorem Y0_own2S {G : Fn} {c : Cl} : Y0 (evOwn2S n G c a b) ρ K X = Y0 (dat a) ρ (fun d ρ1 => match d with
    | .obj c' xs => c' = c ∧ Y0 (dat b) ρ1 (fun d2 ρ2 => match d2 with | .obj c2 ys => c2 = c ∧ Y0 (callG n G [.d (.obj c xs), .d (.obj c ys)]) ρ2 K X | _ => False) X
    | _ => False) X := by
  unfold evOwn2S
  rw [Y0_bnd]; congr 1; funext d ρ1
  cases d <;> try rfl
  rename_i c' xs
  dsimp only
  rw [Y0_if]
  by_cases h : c' = c
  · rw [if_pos h, Y0_bnd]
    simp only [h, true_and]
    congr 1; funext d2 ρ2
    cases d2 <;> try rfl
    rename_i c2 ys
    dsimp only
    rw [Y0_if]
    by_cases h2 : c2 = c
    · rw [if_pos h2]; simp only [h2, true_and]
    · rw [if_neg h2, Y0_fai]; simp only [h2, false_and]
  · rw [if_neg h, Y0_fai]; simp only [h, false_and]
theorem Y0_st {k : StK} : Y0 (evSt k m) ρ K X = Y0 (dat m) ρ (fun d ρ1 => match d with | .tup xs => K (.d (.tup (k.ap xs))) ρ1 | _ => False) X := by
  unfold evSt; rw [Y0_bnd]; congr 1; funext d ρ1; cases d <;> rfl
theorem Y0_ownIn {G : Fn} {c : Cl} : Y0 (evOwnIn n G c a b) ρ K X = Y0 (dat a) ρ (fun x ρ1 => Y0 (dat b) ρ1 (fun d ρ2 => match d with
    | .obj c' xs => c' = c ∧ Y0 (tst (noEr (callG n G [.d (.obj c xs), .d x]))) ρ2 (fun z ρ3 => K (.d (.bl z)) ρ3) X
    | _ => False) X) X := by
  unfold evOwnIn
  rw [Y0_bnd]; congr 1; funext x ρ1
  rw [Y0_bnd]; congr 1; funext d ρ2
  cases d <;> try rfl
  rename_i c' xs
  dsimp only
  rw [Y0_if]
  by_cases h : c' = c
  · rw [if_pos h, Y0_bnd]; simp only [h, true_and]; rfl
  · rw [if_neg h, Y0_fai]; simp only [h, false_and]
theorem Y0_ownNin {G : Fn} {c : Cl} : Y0 (evOwnNin n G c a b) ρ K X = Y0 (dat a) ρ (fun x ρ1 => Y0 (dat b) ρ1 (fun d ρ2 => match d with
    | .obj c' xs => c' = c ∧ Y0 (tst (noEr (callG n G [.d (.obj c xs), .d x]))) ρ2 (fun z ρ3 => K (.d (.bl (!z))) ρ3) X
    | _ => False) X) X := by
  unfold evOwnNin
  rw [Y0_bnd]; congr 1; funext x ρ1
  rw [Y0_bnd]; congr 1; funext d ρ2
  cases d <;> try rfl
  rename_i c' xs
  dsimp only
  rw [Y0_if]
  by_cases h : c' = c
  · rw [if_pos h, Y0_bnd]; simp only [h, true_and]; rfl
  · rw [if_neg h, Y0_fai]; simp only [h, false_and]
theorem datas_0 : datas [] = some [] := id rfl
theorem datas_d {d : D} {ar : List Ar} : datas (.d d :: ar) = (datas ar).map (d :: ·) := by
  show (match Ar.data (.d d), datas ar with | some d, some ds => some (d :: ds) | _, _ => none) = _
  cases datas ar <;> rfl
theorem Y0_callV {G : Fn} {ds : List D} : Y0 (callV n G ds) ρ K X = ((n ≤ ds.length ∧ ds.length ≤ 1000000) ∧ Y0 (callG (n + 1) G ((ds.take n).map .d ++ [.d (.tup (ds.drop n))])) ρ K X) := by
  unfold callV
  rw [Y0_if]
  by_cases h : n ≤ ds.length ∧ ds.length ≤ 1000000
  · rw [if_pos h]; simp only [h, true_and, and_self]
  · rw [if_neg h]; exact propext ⟨fun z => z.elim, fun z => h z.1⟩
theorem Y0_CallV {G : Fn} : Y0 (evCallV n G as) ρ K X = Y0 (evAs as) ρ (fun ar ρ1 => ∃ ds, datas ar = some ds ∧ Y0 (callV n G ds) ρ1 K X) X := by
  unfold evCallV
  rw [Y0_bnd]; congr 1; funext ar ρ1
  rw [Y0_bnd, Y0_opt]
theorem Y0_CallV0 {G : Fn} : Y0 (evCallV0 n G as) ρ K X = Y0 (evAs as) ρ (fun ar ρ1 => ∃ ds, datas ar = some ds ∧ Y0 (callV n G ds) ρ1 K NX) X := by
  unfold evCallV0
  rw [Y0_bnd]; congr 1; funext ar ρ1
  rw [Y0_bnd, Y0_opt]
  congr 1; funext ds; rw [Y0_noEr]
theorem Y0_CallVS {G : Fn} : Y0 (evCallVS n G m) ρ K X = Y0 (dat m) ρ (fun d ρ1 => ∃ ds, d.items = some ds ∧ Y0 (callV n G ds) ρ1 K X) X := by
  unfold evCallVS
  rw [Y0_bnd]; congr 1; funext d ρ1
  rw [Y0_bnd, Y0_opt]
theorem Y0_mkG {G : Fn} {c : Cl} {ar : List Ar} : Y0 (mkG n G c ar) ρ K X = Y0 (callG n G (.c ρ.length :: ar)) (ρ ++ [.cel .own (.obj c [])]) (fun r ρ1 => match r, ρ1[ρ.length]? with | .d .non, some (.cel .own c') => K (.c c') (ρ1.take ρ.length) | _, _ => False) (fun c pl ρ1 => X c pl (ρ1.take ρ.length)) := by
  unfold Y0 mkG
  dsimp only
  generalize callG n G (.c ρ.length :: ar) (ρ ++ [.cel .own (.obj c [])]) = z
  cases z with
  | none => rfl
  | some x =>
    obtain ⟨r, ρ1⟩ := x
    cases r with
    | er c pl => rfl
    | ok r =>
      cases r with
      | c c => cases ρ1[ρ.length]? <;> rfl
      | d d =>
        cases d with
        | non =>
          dsimp only
          cases ρ1[ρ.length]? with
          | none => rfl
          | some s => cases s with
            | cel k c => cases k <;> rfl
            | _ => rfl
        | _ => cases ρ1[ρ.length]? <;> rfl
theorem Y0_mk {G : Fn} {c : Cl} {ds : List D} : Y0 (evMk n G c as ds) ρ K X = Y0 (evAs as) ρ (fun ar ρ1 => Y0 (mkG n G c (ar ++ ds.map .d)) ρ1 K X) X := by unfold evMk; rw [Y0_bnd]
theorem Y0_mk0 {G : Fn} {c : Cl} {ds : List D} : Y0 (evMk0 n G c as ds) ρ K X = Y0 (evAs as) ρ (fun ar ρ1 => Y0 (mkG n G c (ar ++ ds.map .d)) ρ1 K NX) X := by
  unfold evMk0; rw [Y0_bnd]; congr 1; funext ar ρ1; rw [Y0_noEr]
theorem Y0_meth {G : Fn} {c : Cl} : Y0 (evMeth n G c m as) ρ K X = Y0 (dat m) ρ (fun d ρ1 => match d with | .obj c' xs => c' = c ∧ Y0 (evAs as) ρ1 (fun ar ρ2 => Y0 (callG n G (.d (.obj c' xs) :: ar)) ρ2 K NX) X | _ => False) X := by
  unfold evMeth; rw [Y0_bnd]; congr 1; funext d ρ1
  cases d <;> try rfl
  rename_i c' xs
  dsimp only
  rw [Y0_if]
  by_cases h : c' = c
  · rw [if_pos h, Y0_bnd]
    simp only [h, true_and, Y0_noEr]
  · rw [if_neg h, Y0_fai]; simp [h]
theorem Y0_methS {G : Fn} {c : Cl} : Y0 (evMethS n G c m as) ρ K X = Y0 (dat m) ρ (fun d ρ1 => match d with | .obj c' xs => c' = c ∧ Y0 (evAs as) ρ1 (fun ar ρ2 => Y0 (callG n G (.d (.obj c' xs) :: ar)) ρ2 K X) X | _ => False) X := by
  unfold evMethS; rw [Y0_bnd]; congr 1; funext d ρ1
  cases d <;> try rfl
  rename_i c' xs
  dsimp only
  rw [Y0_if]
  by_cases h : c' = c
  · rw [if_pos h, Y0_bnd]
    simp only [h, true_and]
  · rw [if_neg h, Y0_fai]; simp [h]
theorem Y0_runB {k : Nat} {ss : List Sl} : Y0 (runB k s) ss K X = Y0 s (ss ++ List.replicate k .un) (fun f ρ => match f with | .nx => K (.d .non) (outs ss ρ) | .rt r => K r (outs ss ρ) | _ => False) (fun c pl ρ => X c pl (outs ss ρ)) := by
  unfold Y0 runB
  dsimp only
  generalize s (ss ++ List.replicate k .un) = z
  cases z with
  | none => rfl
  | some x => obtain ⟨r, ρ1⟩ := x; cases r with
    | ok f => cases f <;> rfl
    | er c pl => rfl
theorem Y0_run0 {k : Nat} {ss : List Sl} : Y0 (run0 k s) ss K X = Y0 s (ss ++ List.replicate k .un) (fun f ρ => match f with | .nx => K (.d .non) (outs ss ρ) | .rt r => K r (outs ss ρ) | _ => False) NX := by
  unfold run0; rw [Y0_noEr, Y0_runB]
theorem Y0_raise {c : Cl} : Y0 (evRaise c) ρ KF X = X c none ρ := id rfl
theorem Y0_raiseP {c : Cl} : Y0 (evRaiseP c m) ρ KF X = Y0 (dat m) ρ (fun d ρ1 => fmtD d = true ∧ X c (some d) ρ1) X := by
  unfold evRaiseP
  rw [Y0_bnd]; congr 1; funext d ρ1
  cases e : fmtD d with
  | true =>
    rw [if_pos rfl]
    exact propext ⟨fun h => ⟨rfl, h⟩, fun h => h.2⟩
  | false =>
    rw [if_neg (by decide)]
    exact propext ⟨fun h => h.elim, fun h => by cases h.1⟩
theorem Y0_raise1 {c : Cl} : Y0 (evRaise1 c m) ρ KF X = Y0 m ρ (fun _ ρ1 => X c none ρ1) X := by unfold evRaise1; rw [Y0_bnd]; rfl
theorem Y0_for {it : M (List D)} {tg : Tg} : Y0 (evFor it tg s) ρ KF X = Y0 it ρ (fun xs ρ1 => Y0 (loop tg s xs) ρ1 KF X) X := by unfold evFor; rw [Y0_bnd]
theorem Y0_isi {tbl : List (TyN × Bool)} : Y0 (evIsi tbl m) ρ K X = Y0 (dat m) ρ (fun d ρ1 => ∃ b, (d.tyN.bind fun t => tbl.lookup t) = some b ∧ K (.d (.bl b)) ρ1) X := by
  unfold evIsi; rw [Y0_bnd]; congr 1; funext d ρ1; rw [Y0_opt]
  exact propext ⟨fun ⟨r, e, k⟩ => by obtain ⟨z, e1, e2⟩ := map_some e; subst e2; exact ⟨z, e1, k⟩, fun ⟨z, e, k⟩ => ⟨_, by rw [e]; rfl, k⟩⟩
theorem Y0_tTr : Y0 (tTr m) ρ KB X = Y0 (dat m) ρ (fun d ρ1 => ∃ b, d.truth = some b ∧ KB b ρ1) X := by
  unfold tTr; rw [Y0_bnd]; congr 1; funext d ρ1; rw [Y0_opt]
theorem Y0_fldS {c : Cl} {f : Str} : Y0 (evFldS c j f m) ρ KF X = Y0 (dat m) ρ (fun d ρ1 => match ρ1[j]? with | some (.cel k (.obj c' kvs)) => (c' = c ∧ kvs.length < 1000) ∧ KF .nx (ρ1.set j (.cel k (.obj c' (putD f d kvs)))) | _ => False) X := by
  unfold evFldS; rw [Y0_bnd]; congr 1; funext d ρ1
  unfold Y0
  dsimp only
  generalize ρ1[j]? = z
  cases z with
  | none => rfl
  | some s => cases s with
    | cel k cc => cases cc with
      | obj c' kvs =>
        dsimp only
        by_cases h : c' = c ∧ kvs.length < 1000
        · rw [if_pos h]; simp [h]
        · rw [if_neg h]; simp only [h, false_and]
      | _ => rfl
    | _ => rfl
/-- a statement, then the rest: what holds between them is said -/
theorem Y0_cut {J : List Sl → Prop} (h : Y0 s ρ (fun f ρ1 => f = .nx ∧ J ρ1) X) (k : ∀ ρ1, J ρ1 → Y0 t ρ1 KF X) : Y0 (evSeq s t) ρ KF X := by
  rw [Y0_seq]
  refine h.mono (fun f ρ1 q => ?_) (fun _ _ _ q => q)
  obtain ⟨e, q⟩ := q
  subst e
  exact k ρ1 q
/-- a loop with an invariant over what is still to come -/
theorem Y0_loop {tg : Tg} {I : List D → List Sl → Prop} : ∀ {xs : List D} {ρ : List Sl}, I xs ρ → (∀ x r ρ, I (x :: r) ρ → Y0 (asgT tg x) ρ (fun f ρ1 => f = .nx ∧ Y0 s ρ1 (fun f ρ2 => match f with | .nx => I r ρ2 | .ct => I r ρ2 | .bk => KF .nx ρ2 | .rt v => KF (.rt v) ρ2) X) NX) → (∀ ρ, I [] ρ → KF .nx ρ) → Y0 (loop tg s xs) ρ KF X
  | [], ρ, h, _, e => e ρ h
  | x :: xs, ρ, h, st, e => by
    obtain ⟨f, ρ1, e1, rfl, z⟩ := (st x xs ρ h).mk
    conv => unfold Y0 loop
    rw [e1]
    dsimp only
    unfold Y0 at z
    cases es : s ρ1 with
    | none => rw [es] at z; exact z.elim
    | some y =>
      obtain ⟨r, ρ2⟩ := y
      rw [es] at z
      cases r with
      | er c pl => exact z
      | ok f =>
        cases f with
        | nx => have := Y0_loop (xs := xs) z st e; unfold Y0 at this; exact this
        | ct => have := Y0_loop (xs := xs) z st e; unfold Y0 at this; exact this
        | bk => exact z
        | rt v => exact z
theorem Y0_asgT {tg : Tg} : Y0 (evAsgT tg m) ρ KF X = Y0 (dat m) ρ (fun d ρ1 => Y0 (asgT tg d) ρ1 (fun f ρ2 => f = .nx ∧ KF .nx ρ2) NX) X := by
  unfold evAsgT; rw [Y0_bnd]; congr 1; funext d ρ1
  unfold Y0
  dsimp only
  generalize asgT tg d ρ1 = z
  cases z with
  | none => rfl
  | some x =>
    obtain ⟨r, ρ2⟩ := x
    cases r with
    | er c pl => rfl
    | ok f => cases f <;> simp
theorem Y0_asgTt {ts : List Tg} {xs : List D} : Y0 (asgT (.t ts) (.tup xs)) ρ KF X = Y0 (asgTs ts xs) ρ KF X := by rw [asgT]
theorem Y0_asgTs0 : Y0 (asgTs [] []) ρ KF X = KF .nx ρ := by rw [asgTs]; rfl
theorem Y0_asgTsC {t : Tg} {ts : List Tg} {x : D} {xs : List D} : Y0 (asgTs (t :: ts) (x :: xs)) ρ KF X = Y0 (evSeq (asgT t x) (asgTs ts xs)) ρ KF X := by rw [asgTs]
theorem Y0_part0 {KO : Option Int → List Sl → Prop} : Y0 (dPart none) ρ KO X = KO none ρ := id rfl
theorem Y0_partS {KO : Option Int → List Sl → Prop} : Y0 (dPart (some m)) ρ KO X = Y0 (dat m) ρ (fun d ρ1 => match d with | .int i => KO (some i) ρ1 | _ => False) X := by
  show Y0 (bnd (dat m) _) ρ KO X = _
  rw [Y0_bnd]; congr 1; funext d ρ1; cases d <;> rfl
theorem Y0_sl {l u : Option Ev} : Y0 (evSl m l u) ρ K X = Y0 (dat m) ρ (fun d ρ1 => Y0 (dPart l) ρ1 (fun lo ρ2 => Y0 (dPart u) ρ2 (fun hi ρ3 => match d with
    | .lst xs => K (.c (.lst (cut xs lo hi))) ρ3
    | .sq xs => K (.c (.lst (cut xs lo hi))) ρ3
    | .tup xs => K (.d (.tup (cut xs lo hi))) ρ3
    | .str z => z.length ≤ 16777216 ∧ K (.d (.str (cutS z lo hi))) ρ3
    | _ => False) X) X) X := by
  unfold evSl
  rw [Y0_bnd]; congr 1; funext d ρ1
  rw [Y0_bnd]; congr 1; funext lo ρ2
  rw [Y0_bnd]; congr 1; funext hi ρ3
  cases d <;> try rfl
  dsimp only
  rw [Y0_if]
  split
  · rename_i h; simp only [h, true_and]; rfl
  · rename_i h; simp only [h, false_and]; rfl
theorem Y0_rev : Y0 (evRev m) ρ K X = Y0 (dat m) ρ (fun d ρ1 => ∃ xs, d.litems = some xs ∧ K (.c (.lst xs.reverse)) ρ1) X := by
  unfold evRev
  rw [Y0_bnd]; congr 1; funext d ρ1
  cases d.litems with
  | none => exact propext ⟨fun h => h.elim, fun ⟨_, e, _⟩ => by cases e⟩
  | some xs => exact propext ⟨fun h => ⟨xs, rfl, h⟩, fun ⟨_, e, h⟩ => by cases e; exact h⟩
theorem Y0_vNoT : Y0 (vNoT m) ρ K X = Y0 (dat m) ρ (fun d ρ1 => ∃ b, d.truth = some b ∧ K (.d (.bl (!b))) ρ1) X := by
  unfold vNoT; rw [Y0_bnd]; congr 1; funext d ρ1; rw [Y0_opt]
  exact propext ⟨fun ⟨r, e, k⟩ => by obtain ⟨z, e1, e2⟩ := map_some e; subst e2; exact ⟨z, e1, k⟩, fun ⟨z, e, k⟩ => ⟨_, by rw [e]; rfl, k⟩⟩
theorem Y0_maxD {es : List DE} : Y0 (evMaxD es m) ρ K X = Y0 (evDs es) ρ (fun ds ρ1 => Y0 (dat m) ρ1 (fun d ρ2 => match d with | .int n => ∃ z, gMaxD n ds = some z ∧ K (.d z) ρ2 | _ => False) X) X := by
  unfold evMaxD
  rw [Y0_bnd]; congr 1; funext ds ρ1
  rw [Y0_bnd]; congr 1; funext d ρ2
  cases d <;> try rfl
  dsimp only
  rw [Y0_opt]
  exact propext ⟨fun ⟨r, e, k⟩ => by obtain ⟨z, e1, e2⟩ := map_some e; subst e2; exact ⟨z, e1, k⟩, fun ⟨z, e, k⟩ => ⟨_, by rw [e]; rfl, k⟩⟩
theorem Y0_itO {c : Cl} {KI : List D → List Sl → Prop} : Y0 (itO c i m) ρ KI X = Y0 (dat m) ρ (fun d ρ1 => match d with | .obj c' xs => c' = c ∧ (match xs[i]? with | some (.tup ys) => KI ys ρ1 | _ => False) | _ => False) X := by
  unfold itO
  rw [Y0_bnd]; congr 1; funext d ρ1
  cases d <;> try rfl
  dsimp only
  rw [Y0_if]
  split
  · rename_i h
    simp only [h, true_and]
    rename_i xs
    cases xs[i]? with
    | none => rfl
    | some d => cases d <;> rfl
  · rename_i h; simp only [h, false_and]; rfl
/-- a comprehension whose element is a function of the item -/
theorem Y0_lc {vs : List Nat} {it : M (List D)} {tg : Tg} {e : Ev} : Y0 (evLc vs it tg u e) ρ K X = Y0 it ρ (fun xs ρ1 => okOwn ρ1 vs = true ∧ Y0 (lcGo vs tg u e xs []) (wipeR ρ1 vs) (fun acc ρ2 => K (.c (.lst acc)) (restR ρ1 ρ2 vs)) NX) X := by
  unfold evLc
  rw [Y0_bnd]; congr 1; funext xs ρ1
  unfold lcRun
  conv => lhs; unfold Y0
  by_cases h : okOwn ρ1 vs = true
  · simp only [h, if_true, true_and]
    unfold Y0
    cases lcGo vs tg u e xs [] (wipeR ρ1 vs) with
    | none => rfl
    | some x => obtain ⟨r, ρ2⟩ := x; cases r <;> rfl
  · have h' : okOwn ρ1 vs = false := by simpa using h
    simp [h']
theorem Y0_lc2 {vs vs1 : List Nat} {it it1 : M (List D)} {tg tg1 : Tg} {v : M Bool} {e : Ev} : Y0 (evLc2 vs it tg u it1 vs1 tg1 v e) ρ K X = Y0 it ρ (fun xs ρ1 => okOwn ρ1 vs = true ∧ Y0 (lcGo2 vs tg u it1 vs1 tg1 v e xs []) (wipeR ρ1 vs) (fun acc ρ2 => K (.c (.lst acc)) (restR ρ1 ρ2 vs)) NX) X := by
  unfold evLc2
  rw [Y0_bnd]; congr 1; funext xs ρ1
  unfold lcRun
  conv => lhs; unfold Y0
  by_cases h : okOwn ρ1 vs = true
  · simp only [h, if_true, true_and]
    unfold Y0
    cases lcGo2 vs tg u it1 vs1 tg1 v e xs [] (wipeR ρ1 vs) with
    | none => rfl
    | some x => obtain ⟨r, ρ2⟩ := x; cases r <;> rfl
  · have h' : okOwn ρ1 vs = false := by simpa using h
    simp [h']
theorem Y0_Sc2 {vs vs1 : List Nat} {it : M (List D)} {tg tg1 : Tg} {v : M Bool} {lo hi : Int} {e : Ev} : Y0 (evSc2 vs it tg u lo hi vs1 tg1 v e) ρ K X = Y0 (evLc2 vs it tg u (pur (rngD lo (hi - lo).toNat)) vs1 tg1 v e) ρ (fun r ρ1 => match r with
    | .c (.lst xs) => ∃ ns, D.ints xs = some ns ∧ ns.length < 4000 ∧ K (.c (.lst ((srtI ns).map .int))) ρ1
    | _ => False) X := by
  unfold evSc2
  rw [Y0_bnd]; congr 1; funext r ρ1
  cases r with
  | d d => rfl
  | c c =>
    cases c <;> try rfl
    rename_i xs
    dsimp only
    cases D.ints xs with
    | none => exact propext ⟨fun k => k.elim, fun ⟨_, e, _⟩ => by cases e⟩
    | some ns =>
      dsimp only
      split
      · rename_i h
        exact propext ⟨fun k => ⟨ns, rfl, h, k⟩, fun ⟨_, e, _, k⟩ => by cases e; exact k⟩
      · rename_i h
        exact propext ⟨fun k => k.elim, fun ⟨_, e, l, _⟩ => by cases e; exact absurd l h⟩
theorem Y0_Rng2 {fa fb : Ev} {k : Int → Int → M Fl} : Y0 (evRng2 i fa fb k) ρ KF X = Y0 (dat fa) ρ (fun x ρ1 => Y0 (dat fb) ρ1 (fun y ρ2 => match x, y with
    | .int lo, .int hi => (-(2 ^ 62) ≤ lo ∧ lo < 2 ^ 62 ∧ -(2 ^ 62) ≤ hi ∧ hi < 2 ^ 62) ∧ ∃ s, ρ2[i]? = some s ∧ canSet s = true ∧ Y0 (k lo hi) (ρ2.set i .un) KF X
    | _, _ => False) X) X := by
  unfold evRng2
  rw [Y0_bnd]; congr 1; funext x ρ1
  rw [Y0_bnd]; congr 1; funext y ρ2
  cases x <;> try rfl
  rename_i lo
  cases y <;> try rfl
  rename_i hi
  dsimp only
  split
  · rename_i h
    unfold Y0
    dsimp only
    cases ρ2[i]? with
    | none => exact propext ⟨fun k => k.elim, fun ⟨_, _, e, _⟩ => by cases e⟩
    | some s =>
      have go : ∀ {P : Prop}, canSet s = true → (P = (_ ∧ ∃ s', some s = some s' ∧ canSet s' = true ∧ P)) := fun {P} z => propext ⟨fun q => ⟨h, s, rfl, z, q⟩, fun ⟨_, _, _, _, q⟩ => q⟩
      cases s with
      | cel k c => cases k with
        | own => exact go rfl
        | par => exact propext ⟨fun k => k.elim, fun ⟨_, _, e, z, _⟩ => by cases e; cases z⟩
      | _ => exact go rfl
  · rename_i h
    exact propext ⟨fun k => k.elim, fun k => absurd k.1 h⟩
theorem Y0_asgX : Y0 (evAsgX i m) ρ KF X = Y0 m ρ (fun r ρ1 => match r with | .c c => Y0 (PL.setC i c) ρ1 KF X | .d d => Y0 (PL.setD i d) ρ1 KF X) X := by
  unfold evAsgX
  rw [Y0_bnd]; congr 1; funext r ρ1
  cases r <;> rfl
/-- exceptions -/
theorem Y0.okE {α : Type} {m : M α} {ρ ρ1 : List Sl} {a : α} {K : α → List Sl → Prop} {X : XC} (e : m ρ = some (.ok a, ρ1)) : Y0 m ρ K X = K a ρ1 := by unfold Y0; rw [e]
theorem Y0.erE {α : Type} {m : M α} {ρ ρ1 : List Sl} {c : Cl} {pl : Option D} {K : α → List Sl → Prop} {X : XC} (e : m ρ = some (.er c pl, ρ1)) : Y0 m ρ K X = X c pl ρ1 := by unfold Y0; rw [e]
theorem Y0.noE {α : Type} {m : M α} {ρ : List Sl} {K : α → List Sl → Prop} {X : XC} (e : m ρ = none) : Y0 m ρ K X = False := by unfold Y0; rw [e]
theorem Y0.cg {α : Type} {m m' : M α} {ρ ρ' : List Sl} {K : α → List Sl → Prop} {X : XC} (e : m ρ = m' ρ') : Y0 m ρ K X = Y0 m' ρ' K X := by unfold Y0; rw [e]
theorem Y0_suiteO : Y0 (suiteO t) ρ KF X = (noExn ρ = true ∧ Y0 t ρ (fun f ρ2 => noExn ρ2 = true ∧ KF f ρ2) NX) := by
  by_cases h : noExn ρ = true
  · cases e : t ρ with
    | none => rw [Y0.noE (m := suiteO t) (by unfold suiteO; rw [if_pos h, e]), Y0.noE e]; simp
    | some x =>
      obtain ⟨r, ρ2⟩ := x
      cases r with
      | er c pl => rw [Y0.noE (m := suiteO t) (by unfold suiteO; rw [if_pos h, e]), Y0.erE e]; simp
      | ok f =>
        rw [Y0.okE e]
        by_cases h2 : noExn ρ2 = true
        · rw [Y0.okE (m := suiteO t) (a := f) (ρ1 := ρ2) (by unfold suiteO; rw [if_pos h, e]; simp only [h2, if_true])]; simp [h, h2]
        · rw [Y0.noE (m := suiteO t) (by unfold suiteO; rw [if_pos h, e]; simp only [h2]; rfl)]; simp [h2]
  · rw [Y0.noE (m := suiteO t) (by unfold suiteO; rw [if_neg h])]; simp [h]
theorem Y0_suiteA {c : Cl} {pl : Option D} : Y0 (suiteA i c pl t) ρ KF X = (noExn ρ = true ∧ ∃ z, ρ[i]? = some z ∧ canSet z = true ∧ Y0 t (ρ.set i (.exn c pl)) (fun f ρ2 => noExn (ρ2.set i .un) = true ∧ KF f (ρ2.set i .un)) NX) := by
  by_cases h : noExn ρ = true
  · cases hz : ρ[i]? with
    | none => rw [Y0.noE (m := suiteA i c pl t) (by unfold suiteA; rw [if_pos h, hz])]; simp
    | some z =>
      by_cases hc : canSet z = true
      · have e0 : suiteA i c pl t ρ = (match t (ρ.set i (.exn c pl)) with | some (.ok f, ρ2) => if noExn (ρ2.set i .un) = true then some (.ok f, ρ2.set i .un) else none | _ => none) := by
          unfold suiteA
          rw [if_pos h, hz]
          cases z with
          | cel k cc => cases k with
            | own => rfl
            | par => cases hc
          | _ => rfl
        have right : (noExn ρ = true ∧ ∃ z', some z = some z' ∧ canSet z' = true ∧ Y0 t (ρ.set i (.exn c pl)) (fun f ρ2 => noExn (ρ2.set i .un) = true ∧ KF f (ρ2.set i .un)) NX) = Y0 t (ρ.set i (.exn c pl)) (fun f ρ2 => noExn (ρ2.set i .un) = true ∧ KF f (ρ2.set i .un)) NX := propext ⟨fun ⟨_, _, _, _, q⟩ => q, fun q => ⟨h, z, rfl, hc, q⟩⟩
        rw [right]
        cases e : t (ρ.set i (.exn c pl)) with
        | none => rw [e] at e0; rw [Y0.noE e0, Y0.noE e]
        | some x =>
          obtain ⟨r, ρ2⟩ := x
          cases r with
          | er c pl => rw [e] at e0; rw [Y0.noE e0, Y0.erE e]
          | ok f =>
            rw [e] at e0
            rw [Y0.okE e]
            by_cases h2 : noExn (ρ2.set i .un) = true
            · rw [Y0.okE (e0.trans (if_pos h2))]; simp [h2]
            · rw [Y0.noE (e0.trans (if_neg h2))]; simp [h2]
      · have : suiteA i c pl t ρ = none := by
          unfold suiteA
          rw [if_pos h, hz]
          cases z with
          | cel k cc => cases k with
            | own => exact absurd rfl hc
            | par => rfl
          | _ => exact absurd rfl hc
        rw [Y0.noE this]
        exact propext ⟨fun q => q.elim, fun ⟨_, _, e, q, _⟩ => by cases e; exact hc q⟩
  · rw [Y0.noE (m := suiteA i c pl t) (by unfold suiteA; rw [if_neg h])]; simp [h]
theorem Y0_tryO {cat : List (Cl × Bool)} : Y0 (evTryO s cat t) ρ KF X = Y0 s ρ KF (fun c pl ρ1 => match cat.lookup c with | some true => noExn ρ1 = true ∧ Y0 t ρ1 (fun f ρ2 => noExn ρ2 = true ∧ KF f ρ2) NX | some false => X c pl ρ1 | none => False) := by
  cases e : s ρ with
  | none => rw [Y0.noE e, Y0.noE (m := evTryO s cat t) (by unfold evTryO; rw [e])]
  | some x =>
    obtain ⟨r, ρ1⟩ := x
    cases r with
    | ok f => rw [Y0.okE e, Y0.okE (m := evTryO s cat t) (a := f) (ρ1 := ρ1) (by unfold evTryO; rw [e])]
    | er c pl =>
      rw [Y0.erE e]
      have e0 : evTryO s cat t ρ = (match cat.lookup c with | some true => suiteO t ρ1 | some false => some (.er c pl, ρ1) | none => none) := by unfold evTryO; rw [e] <;> rfl
      cases el : cat.lookup c with
      | none => rw [el] at e0; rw [Y0.noE e0]
      | some b =>
        rw [el] at e0
        cases b with
        | false => rw [Y0.erE e0]
        | true => rw [Y0.cg (m' := suiteO t) (ρ' := ρ1) e0, Y0_suiteO]
theorem Y0_tryA {cat : List (Cl × Bool)} : Y0 (evTryA i s cat t) ρ KF X = Y0 s ρ KF (fun c pl ρ1 => match cat.lookup c with
    | some true => noExn ρ1 = true ∧ ∃ z, ρ1[i]? = some z ∧ canSet z = true ∧ Y0 t (ρ1.set i (.exn c pl)) (fun f ρ2 => noExn (ρ2.set i .un) = true ∧ KF f (ρ2.set i .un)) NX
    | some false => X c pl ρ1
    | none => False) := by
  cases e : s ρ with
  | none => rw [Y0.noE e, Y0.noE (m := evTryA i s cat t) (by unfold evTryA; rw [e])]
  | some x =>
    obtain ⟨r, ρ1⟩ := x
    cases r with
    | ok f => rw [Y0.okE e, Y0.okE (m := evTryA i s cat t) (a := f) (ρ1 := ρ1) (by unfold evTryA; rw [e])]
    | er c pl =>
      rw [Y0.erE e]
      have e0 : evTryA i s cat t ρ = (match cat.lookup c with | some true => suiteA i c pl t ρ1 | some false => some (.er c pl, ρ1) | none => none) := by unfold evTryA; rw [e] <;> rfl
      cases el : cat.lookup c with
      | none => rw [el] at e0; rw [Y0.noE e0]
      | some b =>
        rw [el] at e0
        cases b with
        | false => rw [Y0.erE e0]
        | true => rw [Y0.cg (m' := suiteA i c pl t) (ρ' := ρ1) e0, Y0_suiteA]
theorem Y0_tryM {cs : List Clp} : Y0 (evTryM s cs) ρ KF X = Y0 s ρ KF (fun c pl ρ1 => Y0 (pick cs c pl) ρ1 KF X) := by
  cases e : s ρ with
  | none => rw [Y0.noE e, Y0.noE (m := evTryM s cs) (by unfold evTryM; rw [e])]
  | some x =>
    obtain ⟨r, ρ1⟩ := x
    cases r with
    | ok f => rw [Y0.okE e, Y0.okE (m := evTryM s cs) (a := f) (ρ1 := ρ1) (by unfold evTryM; rw [e])]
    | er c pl =>
      rw [Y0.erE e]
      have e0 : evTryM s cs ρ = pick cs c pl ρ1 := by unfold evTryM; rw [e] <;> rfl
      rw [Y0.cg e0]
theorem Y0_pick0 {c : Cl} {pl : Option D} : Y0 (pick [] c pl) ρ KF X = X c pl ρ := id rfl
theorem Y0_pickC {c : Cl} {pl : Option D} {cat : List (Cl × Bool)} {cs : List Clp} : Y0 (pick ((i, cat, t) :: cs) c pl) ρ KF X = match cat.lookup c with
    | some true => Y0 (suiteA i c pl t) ρ KF X
    | some false => Y0 (pick cs c pl) ρ KF X
    | none => False := by
  have e0 : pick ((i, cat, t) :: cs) c pl ρ = (match cat.lookup c with | some true => suiteA i c pl t ρ | some false => pick cs c pl ρ | none => none) := rfl
  cases el : cat.lookup c with
  | none => rw [el] at e0; rw [Y0.noE e0]
  | some b =>
    rw [el] at e0
    cases b with
    | true => exact Y0.cg e0
    | false => exact Y0.cg e0
theorem Y0_isE {tbl : List (TyN × Bool)} : Y0 (evIsE i tbl) ρ K X = match ρ[i]? with | some (.exn c _) => ∃ b, tbl.lookup (.o c) = some b ∧ K (.d (.bl b)) ρ | _ => False := by
  unfold Y0 evIsE
  cases ρ[i]? with
  | none => rfl
  | some s => cases s with
    | exn c pl =>
      dsimp only
      cases tbl.lookup (.o c) with
      | none => exact propext ⟨fun h => h.elim, fun ⟨_, e, _⟩ => by cases e⟩
      | some b => exact propext ⟨fun h => ⟨b, rfl, h⟩, fun ⟨_, e, h⟩ => by cases e; exact h⟩
    | _ => rfl
theorem Y0_js0 {acc : Str} {KZ : Str → List Sl → Prop} : Y0 (evJs [] acc) ρ KZ X = KZ acc ρ := id rfl
theorem Y0_jsC {ms : List Ev} {acc : Str} {KZ : Str → List Sl → Prop} : Y0 (evJs (m :: ms) acc) ρ KZ X = Y0 (dat m) ρ (fun d ρ1 => match d with | .str y => (acc ++ y).length ≤ 16777216 ∧ Y0 (evJs ms (acc ++ y)) ρ1 KZ X | _ => False) X := by
  show Y0 (bnd (dat m) _) ρ KZ X = _
  rw [Y0_bnd]; congr 1; funext d ρ1
  cases d <;> try rfl
  rename_i y
  show Y0 (if (acc ++ y).length ≤ 16777216 then evJs ms (acc ++ y) else fai) ρ1 KZ X = _
  rw [Y0_if]
  by_cases h : (acc ++ y).length ≤ 16777216
  · rw [if_pos h]; exact propext ⟨fun q => ⟨h, q⟩, fun q => q.2⟩
  · rw [if_neg h]; exact propext ⟨fun q => q.elim, fun q => h q.1⟩
theorem Y0_jn {ms : List Ev} : Y0 (evJn ms) ρ K X = Y0 (evJs ms Str.empty) ρ (fun s ρ1 => K (.d (.str s)) ρ1) X := by unfold evJn; rw [Y0_bnd]; rfl
theorem ne_0 : noExn [] = true := id rfl
theorem ne_d {d : D} : noExn (.dat d :: ρ) = noExn ρ := id rfl
theorem ne_u : noExn (.un :: ρ) = noExn ρ := id rfl
theorem ne_c {k : CK} {c : CC} : noExn (.cel k c :: ρ) = noExn ρ := id rfl
theorem ne_x {c : Cl} {pl : Option D} : noExn (.exn c pl :: ρ) = false := id rfl
/-! dicts -/
theorem Y0_isK {P : Rv → List Sl → Prop} : Y0 (isK j) ρ P X = match ρ[j]? with | some (.cel _ (.dK _)) => P (.d .non) ρ | _ => False := by
  unfold Y0 isK
  cases ρ[j]? with
  | none => rfl
  | some s => cases s with
    | cel k c => cases c <;> rfl
    | _ => rfl
theorem Y0_getK {f : List (Key × D) → Option D} : Y0 (getK j f) ρ K X = match ρ[j]? with | some (.cel _ (.dK kvs)) => ∃ d, f kvs = some d ∧ K (.d d) ρ | _ => False := by
  unfold Y0 getK
  cases ρ[j]? with
  | none => rfl
  | some s => cases s with
    | cel k c => cases c with
      | dK kvs =>
        dsimp only
        cases f kvs with
        | none => exact propext ⟨fun h => h.elim, fun ⟨_, e, _⟩ => by cases e⟩
        | some d => exact propext ⟨fun h => ⟨d, rfl, h⟩, fun ⟨_, e, h⟩ => by cases e; exact h⟩
      | _ => rfl
    | _ => rfl
theorem Y0_dget : Y0 (evDGet j m) ρ K X = match ρ[j]? with | some (.cel _ (.dK _)) => Y0 (dat m) ρ (fun k ρ1 => match ρ1[j]? with | some (.cel _ (.dK kvs)) => ∃ d, k.key.bind (dval kvs) = some d ∧ K (.d d) ρ1 | _ => False) X | _ => False := by
  unfold evDGet
  rw [Y0_bnd, Y0_isK]
  simp only [Y0_bnd, Y0_getK]
theorem Y0_dget2 : Y0 (evDGet2 j m a) ρ K X = match ρ[j]? with | some (.cel _ (.dK _)) => Y0 (dat m) ρ (fun k ρ1 => Y0 (dat a) ρ1 (fun d ρ2 => match ρ2[j]? with | some (.cel _ (.dK kvs)) => ∃ z, k.key.map (fun k => (dval kvs k).getD d) = some z ∧ K (.d z) ρ2 | _ => False) X) X | _ => False := by
  unfold evDGet2
  rw [Y0_bnd, Y0_isK]
  simp only [Y0_bnd, Y0_getK]
theorem Y0_dput : Y0 (evDPut j m a) ρ KF X = Y0 (dat a) ρ (fun d ρ1 => match ρ1[j]? with | some (.cel _ (.dK _)) => Y0 (dat m) ρ1 (fun k ρ2 => (match ρ2[j]? with | some (.cel c (.dK kvs)) => ∃ k', k.key = some k' ∧ kvs.length < 16777216 ∧ KF .nx (ρ2.set j (.cel c (.dK (dput kvs k' d)))) | _ => False)) X | _ => False) X := by
  unfold evDPut
  rw [Y0_bnd]; congr 1; funext d ρ1
  rw [Y0_bnd, Y0_isK]
  cases ρ1[j]? with
  | none => rfl
  | some s => cases s with
    | cel k c => cases c with
      | dK kvs =>
        dsimp only
        rw [Y0_bnd]; congr 1; funext kk ρ2
        unfold Y0
        dsimp only
        generalize ρ2[j]? = z
        cases z with
        | none => rfl
        | some s => cases s with
          | cel k c => cases c with
            | dK kvs =>
              dsimp only
              cases kk.key with
              | none => exact propext ⟨fun h => h.elim, fun ⟨_, e, _⟩ => (by cases e)⟩
              | some k' =>
                dsimp only
                by_cases h : kvs.length < 16777216
                · rw [if_pos h]; exact propext ⟨fun q => ⟨k', rfl, h, q⟩, fun ⟨_, e, _, q⟩ => by cases e; exact q⟩
                · rw [if_neg h]; exact propext ⟨fun q => q.elim, fun ⟨_, _, q, _⟩ => h q⟩
            | _ => rfl
          | _ => rfl
      | _ => rfl
    | _ => rfl
theorem Y0_sortDR : Y0 (evSortDR j) ρ K X = match ρ[j]? with | some (.cel _ (.dK kvs)) => ∃ ks, keysI kvs = some ks ∧ K (.c (.lst ((down ks).map D.int))) ρ | _ => False := by
  unfold Y0 evSortDR
  cases ρ[j]? with
  | none => rfl
  | some s => cases s with
    | cel k c => cases c with
      | dK kvs =>
        dsimp only
        cases keysI kvs with
        | none => exact propext ⟨fun h => h.elim, fun ⟨_, e, _⟩ => by cases e⟩
        | some d => exact propext ⟨fun h => ⟨d, rfl, h⟩, fun ⟨_, e, h⟩ => by cases e; exact h⟩
      | _ => rfl
    | _ => rfl
theorem Y0_asgN {d : D} : Y0 (asgT (.n i) d) ρ KF X = Y0 (setD i d) ρ KF X := id rfl
theorem Y0_itL {KI : List D → List Sl → Prop} : Y0 (itL m) ρ KI X = Y0 (dat m) ρ (fun d ρ1 => ∃ xs, d.litems = some xs ∧ KI xs ρ1) X := by unfold itL; rw [Y0_bnd]; congr 1; funext d ρ1; rw [Y0_opt]
theorem Y0_itT {KI : List D → List Sl → Prop} : Y0 (itT m) ρ KI X = Y0 (dat m) ρ (fun d ρ1 => ∃ xs, d.titems = some xs ∧ KI xs ρ1) X := by unfold itT; rw [Y0_bnd]; congr 1; funext d ρ1; rw [Y0_opt]
theorem Y0_itET {KI : List D → List Sl → Prop} : Y0 (itET m) ρ KI X = Y0 (dat m) ρ (fun d ρ1 => match d with | .tup xs => KI (enumD xs) ρ1 | _ => False) X := by
  unfold itET; rw [Y0_bnd]; congr 1; funext d ρ1
  cases d <;> rfl
theorem Y0_itEL {KI : List D → List Sl → Prop} : Y0 (itEL m) ρ KI X = Y0 (dat m) ρ (fun d ρ1 => match d with | .lst xs => KI (enumD xs) ρ1 | .sq xs => KI (enumD xs) ρ1 | _ => False) X := by
  unfold itEL; rw [Y0_bnd]; congr 1; funext d ρ1
  cases d <;> rfl
theorem Y0_Txm {g : Str → List D → Option D} {o : Ev} {es : List DE} : Y0 (evTxm g o es) ρ K X = Y0 (dat o) ρ (fun x ρ1 => match x with | .str a => Y0 (evDs es) ρ1 (fun ds ρ2 => ∃ z, g a ds = some z ∧ K (.d z) ρ2) X | _ => False) X := by
  unfold evTxm; rw [Y0_bnd]; congr 1; funext x ρ1
  cases x <;> try rfl
  rename_i a
  dsimp only
  rw [Y0_bnd]; congr 1; funext ds ρ2
  rw [Y0_opt]
  cases g a ds with
  | none => exact propext ⟨fun ⟨_, e, _⟩ => (by cases e), fun ⟨_, e, _⟩ => (by cases e)⟩
  | some z => exact propext ⟨fun ⟨_, e, k⟩ => (by cases e; exact ⟨z, rfl, k⟩), fun ⟨_, e, k⟩ => (by cases e; exact ⟨_, rfl, k⟩)⟩
theorem Y0_cnt {o e : Ev} : Y0 (evCnt o e) ρ K X = Y0 (dat o) ρ (fun x ρ1 => match x with | .str a => Y0 (dat e) ρ1 (fun y ρ2 => match y with | .str b => K (.d (.int (Txt.count a b))) ρ2 | _ => False) X | _ => False) X := by
  unfold evCnt; rw [Y0_bnd]; congr 1; funext x ρ1
  cases x <;> try rfl
  dsimp only
  rw [Y0_bnd]; congr 1; funext y ρ2
  cases y <;> rfl
theorem Y0_itZ {KI : List D → List Sl → Prop} : Y0 (itZ a b) ρ KI X = Y0 (dat a) ρ (fun d ρ1 => Y0 (dat b) ρ1 (fun d2 ρ2 => match d, d2 with | .lst xs, .lst ys => KI (zipD xs ys) ρ2 | .tup xs, .tup ys => KI (zipD xs ys) ρ2 | _, _ => False) X) X := by
  unfold itZ; rw [Y0_bnd]; congr 1; funext d ρ1
  rw [Y0_bnd]; congr 1; funext d2 ρ2
  cases d <;> cases d2 <;> rfl
theorem Y0_itZS {KI : List D → List Sl → Prop} : Y0 (itZS a b) ρ KI X = Y0 (dat a) ρ (fun d ρ1 => Y0 (dat b) ρ1 (fun d2 ρ2 => match d, d2 with | .str s, .str t => KI (zipD (chars s) (chars t)) ρ2 | _, _ => False) X) X := by
  unfold itZS; rw [Y0_bnd]; congr 1; funext d ρ1
  rw [Y0_bnd]; congr 1; funext d2 ρ2
  cases d <;> cases d2 <;> rfl
theorem Y0_itR3 {KI : List D → List Sl → Prop} {c : Ev} : Y0 (itR3 a b c) ρ KI X = Y0 (dat a) ρ (fun d ρ1 => Y0 (dat b) ρ1 (fun d2 ρ2 => Y0 (dat c) ρ2 (fun d3 ρ3 => match d, d2, d3 with | .int i, .int j, .int k => stepOk i j k ∧ KI (rng3D i k (Builtin.Range.rangeSize i j k).toNat) ρ3 | _, _, _ => False) X) X) X := by
  unfold itR3; rw [Y0_bnd]; congr 1; funext d ρ1
  rw [Y0_bnd]; congr 1; funext d2 ρ2
  rw [Y0_bnd]; congr 1; funext d3 ρ3
  cases d <;> first | rfl | (cases d2 <;> first | rfl | (cases d3 <;> try rfl))
  dsimp only
  rw [Y0_if]
  split
  · rename_i h; simp only [h, true_and]; rfl
  · rename_i h; simp only [h, false_and]; rfl
theorem Y0_itS {KI : List D → List Sl → Prop} : Y0 (itS m) ρ KI X = Y0 (dat m) ρ (fun d ρ1 => ∃ xs, d.sitems = some xs ∧ KI xs ρ1) X := by
  unfold itS; rw [Y0_bnd]; congr 1; funext d ρ1; rw [Y0_opt]
theorem Y0_join : Y0 (evJoin a b) ρ K X = Y0 (dat a) ρ (fun x ρ1 => match x with | .str z => Y0 (dat b) ρ1 (fun d ρ2 => ∃ r, dJoin z d = some r ∧ K (.d r) ρ2) X | _ => False) X := by
  unfold evJoin; rw [Y0_bnd]; congr 1; funext x ρ1
  cases x <;> try rfl
  dsimp only
  rw [Y0_bnd]; congr 1; funext d ρ2; rw [Y0_opt]
  exact propext ⟨fun ⟨r, e, k⟩ => by obtain ⟨z, e1, e2⟩ := map_some e; subst e2; exact ⟨z, e1, k⟩, fun ⟨z, e, k⟩ => ⟨_, by rw [e]; rfl, k⟩⟩
theorem Y0_xf {c : Cl} : Y0 (evXf i c) ρ K X = match ρ[i]? with | some (.exn c' (some d)) => c' = c ∧ K (.d d) ρ | _ => False := by
  unfold Y0 evXf
  cases ρ[i]? with
  | none => rfl
  | some s => cases s with
    | exn c' pl => cases pl with
      | none => rfl
      | some d =>
        dsimp only
        by_cases h : c' = c
        · rw [if_pos h]; simp only [h, true_and]
        · rw [if_neg h]; simp only [h, false_and]
    | _ => rfl
theorem Y0_itR1 {KI : List D → List Sl → Prop} : Y0 (itR1 m) ρ KI X = Y0 (dat m) ρ (fun d ρ1 => match d with | .int j => (-(2 ^ 62) ≤ j ∧ j < 2 ^ 62) ∧ KI (rngD 0 j.toNat) ρ1 | _ => False) X := by
  unfold itR1; rw [Y0_bnd]; congr 1; funext d ρ1
  cases d <;> try rfl
  dsimp only
  rw [Y0_if]
  split
  · rename_i h; simp only [h, true_and]; rfl
  · rename_i h; simp only [h, false_and]; rfl
theorem Y0_itR2 {KI : List D → List Sl → Prop} : Y0 (itR2 a b) ρ KI X = Y0 (dat a) ρ (fun d ρ1 => Y0 (dat b) ρ1 (fun d2 ρ2 => match d, d2 with | .int i, .int j => (-(2 ^ 62) ≤ i ∧ i < 2 ^ 62 ∧ -(2 ^ 62) ≤ j ∧ j < 2 ^ 62) ∧ KI (rngD i (j - i).toNat) ρ2 | _, _ => False) X) X := by
  unfold itR2; rw [Y0_bnd]; congr 1; funext d ρ1
  rw [Y0_bnd]; congr 1; funext d2 ρ2
  cases d <;> cases d2 <;> try rfl
  dsimp only
  rw [Y0_if]
  split
  · rename_i h; simp only [h, true_and]; rfl
  · rename_i h; simp only [h, false_and]; rfl
end
end PL
end
section
namespace PL
open PySem PySem.Spec PyProof.Rows L2
/-! ### the same, closed: simp stays out of what comes behind -/
structure Lck {α : Type} (K : α → List Sl → Prop) (X : XC) : Type where
@[irreducible] def Y {α : Type} (m : M α) (ρ : List Sl) (K : α → List Sl → Prop) (X : XC) (_ : Lck K X := ⟨⟩) : Prop := Y0 m ρ K X
theorem Y_eq {α : Type} {m : M α} {ρ : List Sl} {K : α → List Sl → Prop} {X : XC} {l : Lck K X} : Y m ρ K X l = Y0 m ρ K X := by unfold Y; rfl
section
variable {α β : Type} {ρ : List Sl} {X X' : XC}
theorem Y.mono {m : M α} {K K' : α → List Sl → Prop} (h : Y m ρ K X) (k : ∀ a ρ1, K a ρ1 → K' a ρ1) (x : ∀ c pl ρ1, X c pl ρ1 → X' c pl ρ1) : Y m ρ K' X' := by
  simp only [Y_eq] at *
  exact Y0.mono h k x
theorem Y.mk {m : M α} {K : α → List Sl → Prop} (h : Y m ρ K NX) : ∃ a ρ1, m ρ = some (.ok a, ρ1) ∧ K a ρ1 := by
  simp only [Y_eq] at *
  exact Y0.mk h
theorem Y.of {m : M α} {K : α → List Sl → Prop} {a : α} {ρ1 : List Sl} (e : m ρ = some (.ok a, ρ1)) (h : K a ρ1) : Y m ρ K X := by
  simp only [Y_eq] at *
  exact Y0.of e h
variable {K : α → List Sl → Prop}
theorem Y_pur {a : α} : Y (pur a) ρ K X = K a ρ := by
  simp only [Y_eq]
  exact Y0_pur
theorem Y_fai : Y (fai : M α) ρ K X = False := by
  simp only [Y_eq]
  exact Y0_fai
theorem Y_bnd {m : M β} {k : β → M α} : Y (bnd m k) ρ K X = Y m ρ (fun a ρ1 => Y (k a) ρ1 K X) X := by
  simp only [Y_eq]
  exact Y0_bnd
theorem Y_noEr {m : M α} : Y (noEr m) ρ K X = Y m ρ K NX := by
  simp only [Y_eq]
  exact Y0_noEr
end
section
variable {ρ : List Sl} {X : XC} {K : Rv → List Sl → Prop} {KD : D → List Sl → Prop} {KB : Bool → List Sl → Prop} {KF : Fl → List Sl → Prop} {m a b c : Ev} {s t : M Fl} {u v : M Bool} {i j n : Nat}
theorem Y_vD {d : D} : Y (vD d) ρ K X = K (.d d) ρ := by
  simp only [Y_eq]
  exact Y0_vD
theorem Y_evV : Y (evV i) ρ K X = match ρ[i]? with | some (.dat d) => K (.d d) ρ | _ => False := by
  simp only [Y_eq]
  exact Y0_evV
theorem Y_evF : Y (evF i) ρ K X = match ρ[i]? with | some (.dat d) => K (.d d) ρ | some (.cel .own c) => (match c.froz with | some d => K (.d d) (ρ.set i (.dat d)) | none => False) | _ => False := by
  simp only [Y_eq]
  exact Y0_evF
theorem Y_evM : Y (evM i) ρ K X = match ρ[i]? with | some (.dat d) => K (.d d) ρ | some (.cel .own c) => K (.c c) (ρ.set i .un) | _ => False := by
  simp only [Y_eq]
  exact Y0_evM
theorem Y_dat : Y (dat m) ρ KD X = Y m ρ (fun r ρ1 => match r with | .d d => KD d ρ1 | .c c => ∃ d, c.froz = some d ∧ KD d ρ1) X := by
  simp only [Y_eq]
  exact Y0_dat
theorem Y_tst : Y (tst m) ρ KB X = Y (dat m) ρ (fun d ρ1 => match d with | .bl b => KB b ρ1 | _ => False) X := by
  simp only [Y_eq]
  exact Y0_tst
theorem Y_ev2 {g : D → D → Option D} : Y (ev2 g a b) ρ K X = Y (dat a) ρ (fun x ρ1 => Y (dat b) ρ1 (fun y ρ2 => ∃ z, g x y = some z ∧ K (.d z) ρ2) X) X := by
  simp only [Y_eq]
  exact Y0_ev2
theorem Y_ev2c {g : D → D → Option CC} : Y (ev2c g a b) ρ K X = Y (dat a) ρ (fun x ρ1 => Y (dat b) ρ1 (fun y ρ2 => ∃ z, g x y = some z ∧ K (.c z) ρ2) X) X := by
  simp only [Y_eq]
  exact Y0_ev2c
theorem Y_ev1 {g : D → Option D} : Y (ev1 g a) ρ K X = Y (dat a) ρ (fun x ρ1 => ∃ z, g x = some z ∧ K (.d z) ρ1) X := by
  simp only [Y_eq]
  exact Y0_ev1
theorem Y_seq : Y (evSeq s t) ρ KF X = Y s ρ (fun f ρ1 => match f with | .nx => Y t ρ1 KF X | f => KF f ρ1) X := by
  simp only [Y_eq]
  exact Y0_seq
theorem Y_evIf : Y (evIf u s t) ρ KF X = Y u ρ (fun c ρ1 => if c = true then Y s ρ1 KF X else Y t ρ1 KF X) X := by
  simp only [Y_eq]
  exact Y0_evIf
theorem Y_tNo : Y (tNo u) ρ KB X = Y u ρ (fun c ρ1 => KB (!c) ρ1) X := by
  simp only [Y_eq]
  exact Y0_tNo
theorem Y_tAn : Y (tAn u v) ρ KB X = Y u ρ (fun c ρ1 => if c = true then Y v ρ1 KB X else KB false ρ1) X := by
  simp only [Y_eq]
  exact Y0_tAn
theorem Y_tOo : Y (tOo u v) ρ KB X = Y u ρ (fun c ρ1 => if c = true then KB true ρ1 else Y v ρ1 KB X) X := by
  simp only [Y_eq]
  exact Y0_tOo
theorem Y_vNo : Y (vNo m) ρ K X = Y (tst m) ρ (fun c ρ1 => K (.d (.bl (!c))) ρ1) X := by
  simp only [Y_eq]
  exact Y0_vNo
theorem Y_vAn : Y (vAn a b) ρ K X = Y (tst a) ρ (fun c ρ1 => if c = true then Y (dat b) ρ1 (fun d ρ2 => K (.d d) ρ2) X else K (.d (.bl false)) ρ1) X := by
  simp only [Y_eq]
  exact Y0_vAn
theorem Y_vOo : Y (vOo a b) ρ K X = Y (tst a) ρ (fun c ρ1 => if c = true then K (.d (.bl true)) ρ1 else Y (dat b) ρ1 (fun d ρ2 => K (.d d) ρ2) X) X := by
  simp only [Y_eq]
  exact Y0_vOo
theorem Y_vIf : Y (vIf u a b) ρ K X = Y u ρ (fun c ρ1 => if c = true then Y a ρ1 K X else Y b ρ1 K X) X := by
  simp only [Y_eq]
  exact Y0_vIf
theorem Y_ch2 {g g' : D → D → Option D} : Y (ch2 g g' a b c) ρ K X = Y (dat a) ρ (fun x ρ1 => Y (dat b) ρ1 (fun y ρ2 => ∃ z, g x y = some (.bl z) ∧ if z = true then Y (dat c) ρ2 (fun w ρ3 => ∃ z2, g' y w = some z2 ∧ K (.d z2) ρ3) X else K (.d (.bl false)) ρ2) X) X := by
  simp only [Y_eq]
  exact Y0_ch2
theorem Y_ch3 {g g' g'' : D → D → Option D} {d : Ev} : Y (ch3 g g' g'' a b c d) ρ KB X = Y (dat a) ρ (fun x ρ1 => Y (dat b) ρ1 (fun y ρ2 => ∃ z, g x y = some (.bl z) ∧ if z = true then Y (dat c) ρ2 (fun w ρ3 => ∃ z2, g' y w = some (.bl z2) ∧ if z2 = true then Y (dat d) ρ3 (fun q ρ4 => ∃ z3, g'' w q = some (.bl z3) ∧ KB z3 ρ4) X else KB false ρ3) X else KB false ρ2) X) X := by
  simp only [Y_eq]
  exact Y0_ch3
theorem Y_setD {d : D} : Y (setD i d) ρ KF X = ∃ s, ρ[i]? = some s ∧ canSet s = true ∧ KF .nx (ρ.set i (.dat d)) := by
  simp only [Y_eq]
  exact Y0_setD
theorem Y_setC {d : CC} : Y (PL.setC i d) ρ KF X = ∃ s, ρ[i]? = some s ∧ canSet s = true ∧ KF .nx (ρ.set i (.cel .own d)) := by
  simp only [Y_eq]
  exact Y0_setC
theorem Y_asg : Y (evAsg i m) ρ KF X = Y (dat m) ρ (fun d ρ1 => Y (setD i d) ρ1 KF X) X := by
  simp only [Y_eq]
  exact Y0_asg
theorem Y_asgC : Y (evAsgC i m) ρ KF X = Y m ρ (fun r ρ1 => match r with | .c c => Y (PL.setC i c) ρ1 KF X | .d _ => False) X := by
  simp only [Y_eq]
  exact Y0_asgC
theorem Y_ret : Y (evRet m) ρ KF X = Y m ρ (fun r ρ1 => KF (.rt r) ρ1) X := by
  simp only [Y_eq]
  exact Y0_ret
theorem Y_ex : Y (evEx m) ρ KF X = Y m ρ (fun _ ρ1 => KF .nx ρ1) X := by
  simp only [Y_eq]
  exact Y0_ex
theorem Y_nx : Y evNx ρ KF X = KF .nx ρ := by
  simp only [Y_eq]
  exact Y0_nx
theorem Y_lookE {m : Ev} {K : Rv → List Sl → Prop} : Y (lookE j m) ρ K X = match ρ[j]? with | some (.cel _ (.lst xs)) => Y m (lkS j xs 0 ρ) (fun r _ => Rv.lfreeO r = true ∧ K r ρ) (fun c pl _ => plfree pl = true ∧ X c pl ρ) | _ => False := by
  simp only [Y_eq]
  exact Y0_lookE
theorem Y_look {α : Type} {ok : α → Bool} {m : M α} {K : α → List Sl → Prop} : Y (look j ok m) ρ K X = match ρ[j]? with | some (.cel _ (.lst xs)) => Y m (lkS j xs 0 ρ) (fun r _ => ok r = true ∧ K r ρ) NX | _ => False := by
  simp only [Y_eq]
  exact Y0_look
variable {KS : List D → List Sl → Prop} {KA : List Ar → List Sl → Prop} {es : List DE} {as : List AE}
theorem Y_ds0 : Y (evDs []) ρ KS X = KS [] ρ := by
  simp only [Y_eq]
  exact Y0_ds0
theorem Y_dsE : Y (evDs (.e m :: es)) ρ KS X = Y (dat m) ρ (fun d ρ1 => Y (evDs es) ρ1 (fun ds ρ2 => KS (d :: ds) ρ2) X) X := by
  simp only [Y_eq]
  exact Y0_dsE
theorem Y_dsS : Y (evDs (.s m :: es)) ρ KS X = Y (dat m) ρ (fun d ρ1 => ∃ xs, d.items = some xs ∧ Y (evDs es) ρ1 (fun ds ρ2 => KS (xs ++ ds) ρ2) X) X := by
  simp only [Y_eq]
  exact Y0_dsS
theorem Y_B {g : List D → Option D} : Y (evB g es) ρ K X = Y (evDs es) ρ (fun ds ρ1 => ∃ z, g ds = some z ∧ K (.d z) ρ1) X := by
  simp only [Y_eq]
  exact Y0_B
theorem Y_Bc {g : List D → Option CC} : Y (evBc g es) ρ K X = Y (evDs es) ρ (fun ds ρ1 => ∃ z, g ds = some z ∧ K (.c z) ρ1) X := by
  simp only [Y_eq]
  exact Y0_Bc
theorem Y_tup : Y (evTup es) ρ K X = Y (evDs es) ρ (fun ds ρ1 => ds.length ≤ 16777216 ∧ K (.d (.tup ds)) ρ1) X := by
  simp only [Y_eq]
  exact Y0_tup
theorem Y_lst : Y (evLst es) ρ K X = Y (evDs es) ρ (fun ds ρ1 => ds.length ≤ 16777216 ∧ K (.c (.lst ds)) ρ1) X := by
  simp only [Y_eq]
  exact Y0_lst
theorem Y_bmL {f : List D → List D → Option (D × List D)} : Y (evBmL j f es) ρ K X = match ρ[j]? with
    | some (.cel _ (.lst _)) => Y (evDs es) ρ (fun ds ρ1 => match ρ1[j]? with | some (.cel k (.lst xs)) => ∃ p, f xs ds = some p ∧ K (.d p.1) (ρ1.set j (.cel k (.lst p.2))) | _ => False) X
    | _ => False := by
  simp only [Y_eq]
  exact Y0_bmL
theorem Y_LstRg {a b : Ev} : Y (evLstRg a b) ρ K X = Y (dat a) ρ (fun x ρ1 => Y (dat b) ρ1 (fun y ρ2 => match x, y with
    | .int i, .int j => (-(2 ^ 62) ≤ i ∧ i < 2 ^ 62 ∧ -(2 ^ 62) ≤ j ∧ j < 2 ^ 62 ∧ (j - i).toNat ≤ 2 ^ 24) ∧ K (.c (.lst (rngD i (j - i).toNat))) ρ2
    | _, _ => False) X) X := by
  simp only [Y_eq]
  exact Y0_LstRg
theorem Y_SrtSt {a : Ev} : Y (evSrtSt a) ρ K X = Y (dat a) ρ (fun x ρ1 => match x with
    | .lst xs => ∃ ns, D.ints xs = some ns ∧ ns.length ≤ 60 ∧ K (.c (.lst ((srtI ns).map .int))) ρ1
    | _ => False) X := by
  simp only [Y_eq]
  exact Y0_SrtSt
theorem Y_ixL : Y (evIxL j m) ρ K X = match ρ[j]? with
    | some (.cel _ (.lst _)) => Y (dat m) ρ (fun d ρ1 => match ρ1[j]? with | some (.cel _ (.lst xs)) => (match d with | .int i => ∃ z, atI xs i = some z ∧ K (.d z) ρ1 | _ => False) | _ => False) X
    | _ => False := by
  simp only [Y_eq]
  exact Y0_ixL
theorem Y_setI : Y (evSetI j a b) ρ KF X = Y (dat b) ρ (fun d ρ1 => match ρ1[j]? with
    | some (.cel _ (.lst _)) => Y (dat a) ρ1 (fun i ρ2 => match i with
      | .int i => (match ρ2[j]? with | some (.cel k (.lst xs)) => ∃ n, ixN xs.length i = some n ∧ KF .nx (ρ2.set j (.cel k (.lst (xs.set n d)))) | _ => False)
      | _ => False) X
    | _ => False) X := by
  simp only [Y_eq]
  exact Y0_setI
theorem Y_as0 : Y (evAs []) ρ KA X = KA [] ρ := by
  simp only [Y_eq]
  exact Y0_as0
theorem Y_asE : Y (evAs (.e m :: as)) ρ KA X = Y (dat m) ρ (fun d ρ1 => Y (evAs as) ρ1 (fun ar ρ2 => KA (.d d :: ar) ρ2) X) X := by
  simp only [Y_eq]
  exact Y0_asE
theorem Y_asC : Y (evAs (.c j :: as)) ρ KA X = match ρ[j]? with | some (.cel _ _) => Y (evAs as) ρ (fun ar ρ2 => KA (.c j :: ar) ρ2) X | _ => False := by
  simp only [Y_eq]
  exact Y0_asC
theorem Y_callG {G : Fn} {ar : List Ar} : Y (callG n G ar) ρ K X = ∃ ss, argSl ρ ar = some ss ∧ (ar.length = n ∧ (celsOf ar).Nodup) ∧ Y G ss (fun r ss' => K r (back ρ ar ss')) (fun c pl ss' => X c pl (back ρ ar ss')) := by
  simp only [Y_eq]
  exact Y0_callG
theorem Y_call {G : Fn} {ds : List D} : Y (evCall n G as ds) ρ K X = Y (evAs as) ρ (fun ar ρ1 => Y (callG n G (ar ++ ds.map .d)) ρ1 K X) X := by
  simp only [Y_eq]
  exact Y0_call
theorem Y_call0 {G : Fn} {ds : List D} : Y (evCall0 n G as ds) ρ K X = Y (evAs as) ρ (fun ar ρ1 => Y (callG n G (ar ++ ds.map .d)) ρ1 K NX) X := by
  simp only [Y_eq]
  exact Y0_call0
theorem Y_callN {G : Fn} {c : CC} {ar : List Ar} : Y (callN n G c ar) ρ K X = Y (callG n G (.c ρ.length :: ar)) (ρ ++ [.cel .own c]) (fun r ρ1 => K r (ρ1.take ρ.length)) (fun c pl ρ1 => X c pl (ρ1.take ρ.length)) := by
  simp only [Y_eq]
  exact Y0_callN
theorem Y_CallN {G : Fn} {ds : List D} : Y (evCallN n G m as ds) ρ K X = Y m ρ (fun r ρ1 => match r with | .c c => Y (evAs as) ρ1 (fun ar ρ2 => Y (callN n G c (ar ++ ds.map .d)) ρ2 K X) X | .d _ => False) X := by
  simp only [Y_eq]
  exact Y0_CallN
theorem Y_CallN0 {G : Fn} {ds : List D} : Y (evCallN0 n G m as ds) ρ K X = Y m ρ (fun r ρ1 => match r with | .c c => Y (evAs as) ρ1 (fun ar ρ2 => Y (callN n G c (ar ++ ds.map .d)) ρ2 K NX) X | .d _ => False) X := by
  simp only [Y_eq]
  exact Y0_CallN0
theorem Y_CallC {G : Fn} {c : Cl} : Y (evCallC n G c as) ρ K X = Y (evAs as) ρ (fun ar ρ1 => Y (callG n G (.d (.cl c) :: ar)) ρ1 K NX) X := by
  simp only [Y_eq]
  exact Y0_CallC
theorem Y_CallCS {G : Fn} {c : Cl} : Y (evCallCS n G c as) ρ K X = Y (evAs as) ρ (fun ar ρ1 => Y (callG n G (.d (.cl c) :: ar)) ρ1 K X) X := by
  simp only [Y_eq]
  exact Y0_CallCS
theorem Y_mkL {G : Fn} {c : Cl} : Y (evMkL i n G c as) ρ K X = match ρ[i]? with | some (.dat (.cl c')) => c' = c ∧ Y (evMk n G c as []) ρ K X | _ => False := by
  simp only [Y_eq]
  exact Y0_mkL
theorem Y_BestN {f : Int → Int → Int} {es : List DE} : Y (evBestN f es) ρ K X = Y (evDs es) ρ (fun ds ρ1 => ∃ z, gBestN f ds = some z ∧ K (.d z) ρ1) X := by
  simp only [Y_eq]
  exact Y0_BestN
theorem Y_own2 {G : Fn} {c : Cl} : Y (evOwn2 n G c a b) ρ K X = Y (dat a) ρ (fun d ρ1 => match d with
    | .obj c' xs => c' = c ∧ Y (dat b) ρ1 (fun d2 ρ2 => match d2 with | .obj c2 ys => c2 = c ∧ Y (callG n G [.d (.obj c xs), .d (.obj c ys)]) ρ2 K NX | _ => False) X
    | _ => False) X := by
  simp only [Y_eq]
  exact Y0_own2
theorem Y_own2S {G : Fn} {c : Cl} : Y (evOwn2S n G c a b) ρ K X = Y (dat a) ρ (fun d ρ1 => match d with
    | .obj c' xs => c' = c ∧ Y (dat b) ρ1 (fun d2 ρ2 => match d2 with | .obj c2 ys => c2 = c ∧ Y (callG n G [.d (.obj c xs), .d (.obj c ys)]) ρ2 K X | _ => False) X
    | _ => False) X := by
  simp only [Y_eq]
  exact Y0_own2S
theorem Y_st {k : StK} : Y (evSt k m) ρ K X = Y (dat m) ρ (fun d ρ1 => match d with | .tup xs => K (.d (.tup (k.ap xs))) ρ1 | _ => False) X := by
  simp only [Y_eq]
  exact Y0_st
theorem Y_ownIn {G : Fn} {c : Cl} : Y (evOwnIn n G c a b) ρ K X = Y (dat a) ρ (fun x ρ1 => Y (dat b) ρ1 (fun d ρ2 => match d with
    | .obj c' xs => c' = c ∧ Y (tst (noEr (callG n G [.d (.obj c xs), .d x]))) ρ2 (fun z ρ3 => K (.d (.bl z)) ρ3) X
    | _ => False) X) X := by
  simp only [Y_eq]
  exact Y0_ownIn
theorem Y_ownNin {G : Fn} {c : Cl} : Y (evOwnNin n G c a b) ρ K X = Y (dat a) ρ (fun x ρ1 => Y (dat b) ρ1 (fun d ρ2 => match d with
    | .obj c' xs => c' = c ∧ Y (tst (noEr (callG n G [.d (.obj c xs), .d x]))) ρ2 (fun z ρ3 => K (.d (.bl (!z))) ρ3) X
    | _ => False) X) X := by
  simp only [Y_eq]
  exact Y0_ownNin
theorem Y_callV {G : Fn} {ds : List D} : Y (callV n G ds) ρ K X = ((n ≤ ds.length ∧ ds.length ≤ 1000000) ∧ Y (callG (n + 1) G ((ds.take n).map .d ++ [.d (.tup (ds.drop n))])) ρ K X) := by
  simp only [Y_eq]
  exact Y0_callV
theorem Y_CallV {G : Fn} : Y (evCallV n G as) ρ K X = Y (evAs as) ρ (fun ar ρ1 => ∃ ds, datas ar = some ds ∧ Y (callV n G ds) ρ1 K X) X := by
  simp only [Y_eq]
  exact Y0_CallV
theorem Y_CallV0 {G : Fn} : Y (evCallV0 n G as) ρ K X = Y (evAs as) ρ (fun ar ρ1 => ∃ ds, datas ar = some ds ∧ Y (callV n G ds) ρ1 K NX) X := by
  simp only [Y_eq]
  exact Y0_CallV0
theorem Y_CallVS {G : Fn} : Y (evCallVS n G m) ρ K X = Y (dat m) ρ (fun d ρ1 => ∃ ds, d.items = some ds ∧ Y (callV n G ds) ρ1 K X) X := by
  simp only [Y_eq]
  exact Y0_CallVS
theorem Y_mkG {G : Fn} {c : Cl} {ar : List Ar} : Y (mkG n G c ar) ρ K X = Y (callG n G (.c ρ.length :: ar)) (ρ ++ [.cel .own (.obj c [])]) (fun r ρ1 => match r, ρ1[ρ.length]? with | .d .non, some (.cel .own c') => K (.c c') (ρ1.take ρ.length) | _, _ => False) (fun c pl ρ1 => X c pl (ρ1.take ρ.length)) := by
  simp only [Y_eq]
  exact Y0_mkG
theorem Y_mk {G : Fn} {c : Cl} {ds : List D} : Y (evMk n G c as ds) ρ K X = Y (evAs as) ρ (fun ar ρ1 => Y (mkG n G c (ar ++ ds.map .d)) ρ1 K X) X := by
  simp only [Y_eq]
  exact Y0_mk
theorem Y_mk0 {G : Fn} {c : Cl} {ds : List D} : Y (evMk0 n G c as ds) ρ K X = Y (evAs as) ρ (fun ar ρ1 => Y (mkG n G c (ar ++ ds.map .d)) ρ1 K NX) X := by
  simp only [Y_eq]
  exact Y0_mk0
theorem Y_meth {G : Fn} {c : Cl} : Y (evMeth n G c m as) ρ K X = Y (dat m) ρ (fun d ρ1 => match d with | .obj c' xs => c' = c ∧ Y (evAs as) ρ1 (fun ar ρ2 => Y (callG n G (.d (.obj c' xs) :: ar)) ρ2 K NX) X | _ => False) X := by
  simp only [Y_eq]
  exact Y0_meth
theorem Y_methS {G : Fn} {c : Cl} : Y (evMethS n G c m as) ρ K X = Y (dat m) ρ (fun d ρ1 => match d with | .obj c' xs => c' = c ∧ Y (evAs as) ρ1 (fun ar ρ2 => Y (callG n G (.d (.obj c' xs) :: ar)) ρ2 K X) X | _ => False) X := by
  simp only [Y_eq]
  exact Y0_methS
theorem Y_runB {k : Nat} {ss : List Sl} : Y (runB k s) ss K X = Y s (ss ++ List.replicate k .un) (fun f ρ => match f with | .nx => K (.d .non) (outs ss ρ) | .rt r => K r (outs ss ρ) | _ => False) (fun c pl ρ => X c pl (outs ss ρ)) := by
  simp only [Y_eq]
  exact Y0_runB
theorem Y_run0 {k : Nat} {ss : List Sl} : Y (run0 k s) ss K X = Y s (ss ++ List.replicate k .un) (fun f ρ => match f with | .nx => K (.d .non) (outs ss ρ) | .rt r => K r (outs ss ρ) | _ => False) NX := by
  simp only [Y_eq]
  exact Y0_run0
theorem Y_raise {c : Cl} : Y (evRaise c) ρ KF X = X c none ρ := by
  simp only [Y_eq]
  exact Y0_raise
theorem Y_raiseP {c : Cl} : Y (evRaiseP c m) ρ KF X = Y (dat m) ρ (fun d ρ1 => fmtD d = true ∧ X c (some d) ρ1) X := by
  simp only [Y_eq]
  exact Y0_raiseP
theorem Y_raise1 {c : Cl} : Y (evRaise1 c m) ρ KF X = Y m ρ (fun _ ρ1 => X c none ρ1) X := by
  simp only [Y_eq]
  exact Y0_raise1
theorem Y_for {it : M (List D)} {tg : Tg} : Y (evFor it tg s) ρ KF X = Y it ρ (fun xs ρ1 => Y (loop tg s xs) ρ1 KF X) X := by
  simp only [Y_eq]
  exact Y0_for
theorem Y_isi {tbl : List (TyN × Bool)} : Y (evIsi tbl m) ρ K X = Y (dat m) ρ (fun d ρ1 => ∃ b, (d.tyN.bind fun t => tbl.lookup t) = some b ∧ K (.d (.bl b)) ρ1) X := by
  simp only [Y_eq]
  exact Y0_isi
theorem Y_tTr : Y (tTr m) ρ KB X = Y (dat m) ρ (fun d ρ1 => ∃ b, d.truth = some b ∧ KB b ρ1) X := by
  simp only [Y_eq]
  exact Y0_tTr
theorem Y_fldS {c : Cl} {f : Str} : Y (evFldS c j f m) ρ KF X = Y (dat m) ρ (fun d ρ1 => match ρ1[j]? with | some (.cel k (.obj c' kvs)) => (c' = c ∧ kvs.length < 1000) ∧ KF .nx (ρ1.set j (.cel k (.obj c' (putD f d kvs)))) | _ => False) X := by
  simp only [Y_eq]
  exact Y0_fldS
theorem Y_cut {J : List Sl → Prop} (h : Y s ρ (fun f ρ1 => f = .nx ∧ J ρ1) X) (k : ∀ ρ1, J ρ1 → Y t ρ1 KF X) : Y (evSeq s t) ρ KF X := by
  simp only [Y_eq] at *
  exact Y0_cut h k
theorem Y_loop {tg : Tg} {I : List D → List Sl → Prop} : ∀ {xs : List D} {ρ : List Sl}, I xs ρ → (∀ x r ρ, I (x :: r) ρ → Y (asgT tg x) ρ (fun f ρ1 => f = .nx ∧ Y s ρ1 (fun f ρ2 => match f with | .nx => I r ρ2 | .ct => I r ρ2 | .bk => KF .nx ρ2 | .rt v => KF (.rt v) ρ2) X) NX) → (∀ ρ, I [] ρ → KF .nx ρ) → Y (loop tg s xs) ρ KF X:= fun {xs ρ} h st e => by simp only [Y_eq] at *; exact Y0_loop h st e
theorem Y_asgT {tg : Tg} : Y (evAsgT tg m) ρ KF X = Y (dat m) ρ (fun d ρ1 => Y (asgT tg d) ρ1 (fun f ρ2 => f = .nx ∧ KF .nx ρ2) NX) X := by
  simp only [Y_eq]
  exact Y0_asgT
theorem Y_asgTt {ts : List Tg} {xs : List D} : Y (asgT (.t ts) (.tup xs)) ρ KF X = Y (asgTs ts xs) ρ KF X := by
  simp only [Y_eq]
  exact Y0_asgTt
theorem Y_asgTs0 : Y (asgTs [] []) ρ KF X = KF .nx ρ := by
  simp only [Y_eq]
  exact Y0_asgTs0
theorem Y_asgTsC {t : Tg} {ts : List Tg} {x : D} {xs : List D} : Y (asgTs (t :: ts) (x :: xs)) ρ KF X = Y (evSeq (asgT t x) (asgTs ts xs)) ρ KF X := by
  simp only [Y_eq]
  exact Y0_asgTsC
theorem Y_part0 {KO : Option Int → List Sl → Prop} : Y (dPart none) ρ KO X = KO none ρ := by
  simp only [Y_eq]
  exact Y0_part0
theorem Y_partS {KO : Option Int → List Sl → Prop} : Y (dPart (some m)) ρ KO X = Y (dat m) ρ (fun d ρ1 => match d with | .int i => KO (some i) ρ1 | _ => False) X := by
  simp only [Y_eq]
  exact Y0_partS
theorem Y_sl {l u : Option Ev} : Y (evSl m l u) ρ K X = Y (dat m) ρ (fun d ρ1 => Y (dPart l) ρ1 (fun lo ρ2 => Y (dPart u) ρ2 (fun hi ρ3 => match d with
    | .lst xs => K (.c (.lst (cut xs lo hi))) ρ3
    | .sq xs => K (.c (.lst (cut xs lo hi))) ρ3
    | .tup xs => K (.d (.tup (cut xs lo hi))) ρ3
    | .str z => z.length ≤ 16777216 ∧ K (.d (.str (cutS z lo hi))) ρ3
    | _ => False) X) X) X := by
  simp only [Y_eq]
  exact Y0_sl
theorem Y_rev : Y (evRev m) ρ K X = Y (dat m) ρ (fun d ρ1 => ∃ xs, d.litems = some xs ∧ K (.c (.lst xs.reverse)) ρ1) X := by
  simp only [Y_eq]
  exact Y0_rev
theorem Y_vNoT : Y (vNoT m) ρ K X = Y (dat m) ρ (fun d ρ1 => ∃ b, d.truth = some b ∧ K (.d (.bl (!b))) ρ1) X := by
  simp only [Y_eq]
  exact Y0_vNoT
theorem Y_maxD {es : List DE} : Y (evMaxD es m) ρ K X = Y (evDs es) ρ (fun ds ρ1 => Y (dat m) ρ1 (fun d ρ2 => match d with | .int n => ∃ z, gMaxD n ds = some z ∧ K (.d z) ρ2 | _ => False) X) X := by
  simp only [Y_eq]
  exact Y0_maxD
theorem Y_itO {c : Cl} {KI : List D → List Sl → Prop} : Y (itO c i m) ρ KI X = Y (dat m) ρ (fun d ρ1 => match d with | .obj c' xs => c' = c ∧ (match xs[i]? with | some (.tup ys) => KI ys ρ1 | _ => False) | _ => False) X := by
  simp only [Y_eq]
  exact Y0_itO
theorem Y_lc {vs : List Nat} {it : M (List D)} {tg : Tg} {e : Ev} : Y (evLc vs it tg u e) ρ K X = Y it ρ (fun xs ρ1 => okOwn ρ1 vs = true ∧ Y (lcGo vs tg u e xs []) (wipeR ρ1 vs) (fun acc ρ2 => K (.c (.lst acc)) (restR ρ1 ρ2 vs)) NX) X := by
  simp only [Y_eq]
  exact Y0_lc
theorem Y_lc2 {vs vs1 : List Nat} {it it1 : M (List D)} {tg tg1 : Tg} {v : M Bool} {e : Ev} : Y (evLc2 vs it tg u it1 vs1 tg1 v e) ρ K X = Y it ρ (fun xs ρ1 => okOwn ρ1 vs = true ∧ Y (lcGo2 vs tg u it1 vs1 tg1 v e xs []) (wipeR ρ1 vs) (fun acc ρ2 => K (.c (.lst acc)) (restR ρ1 ρ2 vs)) NX) X := by
  simp only [Y_eq]
  exact Y0_lc2
theorem Y_Sc2 {vs vs1 : List Nat} {it : M (List D)} {tg tg1 : Tg} {v : M Bool} {lo hi : Int} {e : Ev} : Y (evSc2 vs it tg u lo hi vs1 tg1 v e) ρ K X = Y (evLc2 vs it tg u (pur (rngD lo (hi - lo).toNat)) vs1 tg1 v e) ρ (fun r ρ1 => match r with
    | .c (.lst xs) => ∃ ns, D.ints xs = some ns ∧ ns.length < 4000 ∧ K (.c (.lst ((srtI ns).map .int))) ρ1
    | _ => False) X := by
  simp only [Y_eq]
  exact Y0_Sc2
theorem Y_Rng2 {fa fb : Ev} {k : Int → Int → M Fl} : Y (evRng2 i fa fb k) ρ KF X = Y (dat fa) ρ (fun x ρ1 => Y (dat fb) ρ1 (fun y ρ2 => match x, y with
    | .int lo, .int hi => (-(2 ^ 62) ≤ lo ∧ lo < 2 ^ 62 ∧ -(2 ^ 62) ≤ hi ∧ hi < 2 ^ 62) ∧ ∃ s, ρ2[i]? = some s ∧ canSet s = true ∧ Y (k lo hi) (ρ2.set i .un) KF X
    | _, _ => False) X) X := by
  simp only [Y_eq]
  exact Y0_Rng2
theorem Y_asgX : Y (evAsgX i m) ρ KF X = Y m ρ (fun r ρ1 => match r with | .c c => Y (PL.setC i c) ρ1 KF X | .d d => Y (PL.setD i d) ρ1 KF X) X := by
  simp only [Y_eq]
  exact Y0_asgX
theorem Y.okE {α : Type} {m : M α} {ρ ρ1 : List Sl} {a : α} {K : α → List Sl → Prop} {X : XC} (e : m ρ = some (.ok a, ρ1)) : Y m ρ K X = K a ρ1 := by
  simp only [Y_eq] at *
  exact Y0.okE e
theorem Y.erE {α : Type} {m : M α} {ρ ρ1 : List Sl} {c : Cl} {pl : Option D} {K : α → List Sl → Prop} {X : XC} (e : m ρ = some (.er c pl, ρ1)) : Y m ρ K X = X c pl ρ1 := by
  simp only [Y_eq] at *
  exact Y0.erE e
theorem Y.noE {α : Type} {m : M α} {ρ : List Sl} {K : α → List Sl → Prop} {X : XC} (e : m ρ = none) : Y m ρ K X = False := by
  simp only [Y_eq] at *
  exact Y0.noE e
theorem Y.cg {α : Type} {m m' : M α} {ρ ρ' : List Sl} {K : α → List Sl → Prop} {X : XC} (e : m ρ = m' ρ') : Y m ρ K X = Y m' ρ' K X := by
  simp only [Y_eq] at *
  exact Y0.cg e
theorem Y_suiteA {c : Cl} {pl : Option D} : Y (suiteA i c pl t) ρ KF X = (noExn ρ = true ∧ ∃ z, ρ[i]? = some z ∧ canSet z = true ∧ Y t (ρ.set i (.exn c pl)) (fun f ρ2 => noExn (ρ2.set i .un) = true ∧ KF f (ρ2.set i .un)) NX) := by
  simp only [Y_eq]
  exact Y0_suiteA
theorem Y_tryO {cat : List (Cl × Bool)} : Y (evTryO s cat t) ρ KF X = Y s ρ KF (fun c pl ρ1 => match cat.lookup c with | some true => noExn ρ1 = true ∧ Y t ρ1 (fun f ρ2 => noExn ρ2 = true ∧ KF f ρ2) NX | some false => X c pl ρ1 | none => False) := by
  simp only [Y_eq]
  exact Y0_tryO
theorem Y_tryA {cat : List (Cl × Bool)} : Y (evTryA i s cat t) ρ KF X = Y s ρ KF (fun c pl ρ1 => match cat.lookup c with
    | some true => noExn ρ1 = true ∧ ∃ z, ρ1[i]? = some z ∧ canSet z = true ∧ Y t (ρ1.set i (.exn c pl)) (fun f ρ2 => noExn (ρ2.set i .un) = true ∧ KF f (ρ2.set i .un)) NX
    | some false => X c pl ρ1
    | none => False) := by
  simp only [Y_eq]
  exact Y0_tryA
theorem Y_tryM {cs : List Clp} : Y (evTryM s cs) ρ KF X = Y s ρ KF (fun c pl ρ1 => Y (pick cs c pl) ρ1 KF X) := by
  simp only [Y_eq]
  exact Y0_tryM
theorem Y_pick0 {c : Cl} {pl : Option D} : Y (pick [] c pl) ρ KF X = X c pl ρ := by
  simp only [Y_eq]
  exact Y0_pick0
theorem Y_pickC {c : Cl} {pl : Option D} {cat : List (Cl × Bool)} {cs : List Clp} : Y (pick ((i, cat, t) :: cs) c pl) ρ KF X = match cat.lookup c with
    | some true => Y (suiteA i c pl t) ρ KF X
    | some false => Y (pick cs c pl) ρ KF X
    | none => False := by
  simp only [Y_eq]
  exact Y0_pickC
theorem Y_isE {tbl : List (TyN × Bool)} : Y (evIsE i tbl) ρ K X = match ρ[i]? with | some (.exn c _) => ∃ b, tbl.lookup (.o c) = some b ∧ K (.d (.bl b)) ρ | _ => False := by
  simp only [Y_eq]
  exact Y0_isE
theorem Y_js0 {acc : Str} {KZ : Str → List Sl → Prop} : Y (evJs [] acc) ρ KZ X = KZ acc ρ := by
  simp only [Y_eq]
  exact Y0_js0
theorem Y_jsC {ms : List Ev} {acc : Str} {KZ : Str → List Sl → Prop} : Y (evJs (m :: ms) acc) ρ KZ X = Y (dat m) ρ (fun d ρ1 => match d with | .str y => (acc ++ y).length ≤ 16777216 ∧ Y (evJs ms (acc ++ y)) ρ1 KZ X | _ => False) X := by
  simp only [Y_eq]
  exact Y0_jsC
theorem Y_jn {ms : List Ev} : Y (evJn ms) ρ K X = Y (evJs ms Str.empty) ρ (fun s ρ1 => K (.d (.str s)) ρ1) X := by
  simp only [Y_eq]
  exact Y0_jn
theorem Y_dget : Y (evDGet j m) ρ K X = match ρ[j]? with | some (.cel _ (.dK _)) => Y (dat m) ρ (fun k ρ1 => match ρ1[j]? with | some (.cel _ (.dK kvs)) => ∃ d, k.key.bind (dval kvs) = some d ∧ K (.d d) ρ1 | _ => False) X | _ => False := by
  simp only [Y_eq]
  exact Y0_dget
theorem Y_dget2 : Y (evDGet2 j m a) ρ K X = match ρ[j]? with | some (.cel _ (.dK _)) => Y (dat m) ρ (fun k ρ1 => Y (dat a) ρ1 (fun d ρ2 => match ρ2[j]? with | some (.cel _ (.dK kvs)) => ∃ z, k.key.map (fun k => (dval kvs k).getD d) = some z ∧ K (.d z) ρ2 | _ => False) X) X | _ => False := by
  simp only [Y_eq]
  exact Y0_dget2
theorem Y_dput : Y (evDPut j m a) ρ KF X = Y (dat a) ρ (fun d ρ1 => match ρ1[j]? with | some (.cel _ (.dK _)) => Y (dat m) ρ1 (fun k ρ2 => (match ρ2[j]? with | some (.cel c (.dK kvs)) => ∃ k', k.key = some k' ∧ kvs.length < 16777216 ∧ KF .nx (ρ2.set j (.cel c (.dK (dput kvs k' d)))) | _ => False)) X | _ => False) X := by
  simp only [Y_eq]
  exact Y0_dput
theorem Y_sortDR : Y (evSortDR j) ρ K X = match ρ[j]? with | some (.cel _ (.dK kvs)) => ∃ ks, keysI kvs = some ks ∧ K (.c (.lst ((down ks).map D.int))) ρ | _ => False := by
  simp only [Y_eq]
  exact Y0_sortDR
theorem Y_asgN {d : D} : Y (asgT (.n i) d) ρ KF X = Y (setD i d) ρ KF X := by
  simp only [Y_eq]
  exact Y0_asgN
theorem Y_itL {KI : List D → List Sl → Prop} : Y (itL m) ρ KI X = Y (dat m) ρ (fun d ρ1 => ∃ xs, d.litems = some xs ∧ KI xs ρ1) X := by
  simp only [Y_eq]
  exact Y0_itL
theorem Y_itT {KI : List D → List Sl → Prop} : Y (itT m) ρ KI X = Y (dat m) ρ (fun d ρ1 => ∃ xs, d.titems = some xs ∧ KI xs ρ1) X := by
  simp only [Y_eq]
  exact Y0_itT
theorem Y_itET {KI : List D → List Sl → Prop} : Y (itET m) ρ KI X = Y (dat m) ρ (fun d ρ1 => match d with | .tup xs => KI (enumD xs) ρ1 | _ => False) X := by
  simp only [Y_eq]
  exact Y0_itET
theorem Y_itEL {KI : List D → List Sl → Prop} : Y (itEL m) ρ KI X = Y (dat m) ρ (fun d ρ1 => match d with | .lst xs => KI (enumD xs) ρ1 | .sq xs => KI (enumD xs) ρ1 | _ => False) X := by
  simp only [Y_eq]
  exact Y0_itEL
theorem Y_Txm {g : Str → List D → Option D} {o : Ev} {es : List DE} : Y (evTxm g o es) ρ K X = Y (dat o) ρ (fun x ρ1 => match x with | .str a => Y (evDs es) ρ1 (fun ds ρ2 => ∃ z, g a ds = some z ∧ K (.d z) ρ2) X | _ => False) X := by
  simp only [Y_eq]
  exact Y0_Txm
theorem Y_cnt {o e : Ev} : Y (evCnt o e) ρ K X = Y (dat o) ρ (fun x ρ1 => match x with | .str a => Y (dat e) ρ1 (fun y ρ2 => match y with | .str b => K (.d (.int (Txt.count a b))) ρ2 | _ => False) X | _ => False) X := by
  simp only [Y_eq]
  exact Y0_cnt
theorem Y_itZ {KI : List D → List Sl → Prop} : Y (itZ a b) ρ KI X = Y (dat a) ρ (fun d ρ1 => Y (dat b) ρ1 (fun d2 ρ2 => match d, d2 with | .lst xs, .lst ys => KI (zipD xs ys) ρ2 | .tup xs, .tup ys => KI (zipD xs ys) ρ2 | _, _ => False) X) X := by
  simp only [Y_eq]
  exact Y0_itZ
theorem Y_itZS {KI : List D → List Sl → Prop} : Y (itZS a b) ρ KI X = Y (dat a) ρ (fun d ρ1 => Y (dat b) ρ1 (fun d2 ρ2 => match d, d2 with | .str s, .str t => KI (zipD (chars s) (chars t)) ρ2 | _, _ => False) X) X := by
  simp only [Y_eq]
  exact Y0_itZS
theorem Y_itR3 {KI : List D → List Sl → Prop} {c : Ev} : Y (itR3 a b c) ρ KI X = Y (dat a) ρ (fun d ρ1 => Y (dat b) ρ1 (fun d2 ρ2 => Y (dat c) ρ2 (fun d3 ρ3 => match d, d2, d3 with | .int i, .int j, .int k => stepOk i j k ∧ KI (rng3D i k (Builtin.Range.rangeSize i j k).toNat) ρ3 | _, _, _ => False) X) X) X := by
  simp only [Y_eq]
  exact Y0_itR3
theorem Y_itS {KI : List D → List Sl → Prop} : Y (itS m) ρ KI X = Y (dat m) ρ (fun d ρ1 => ∃ xs, d.sitems = some xs ∧ KI xs ρ1) X := by
  simp only [Y_eq]
  exact Y0_itS
theorem Y_join : Y (evJoin a b) ρ K X = Y (dat a) ρ (fun x ρ1 => match x with | .str z => Y (dat b) ρ1 (fun d ρ2 => ∃ r, dJoin z d = some r ∧ K (.d r) ρ2) X | _ => False) X := by
  simp only [Y_eq]
  exact Y0_join
theorem Y_xf {c : Cl} : Y (evXf i c) ρ K X = match ρ[i]? with | some (.exn c' (some d)) => c' = c ∧ K (.d d) ρ | _ => False := by
  simp only [Y_eq]
  exact Y0_xf
theorem Y_itR1 {KI : List D → List Sl → Prop} : Y (itR1 m) ρ KI X = Y (dat m) ρ (fun d ρ1 => match d with | .int j => (-(2 ^ 62) ≤ j ∧ j < 2 ^ 62) ∧ KI (rngD 0 j.toNat) ρ1 | _ => False) X := by
  simp only [Y_eq]
  exact Y0_itR1
theorem Y_itR2 {KI : List D → List Sl → Prop} : Y (itR2 a b) ρ KI X = Y (dat a) ρ (fun d ρ1 => Y (dat b) ρ1 (fun d2 ρ2 => match d, d2 with | .int i, .int j => (-(2 ^ 62) ≤ i ∧ i < 2 ^ 62 ∧ -(2 ^ 62) ≤ j ∧ j < 2 ^ 62) ∧ KI (rngD i (j - i).toNat) ρ2 | _, _ => False) X) X := by
  simp only [Y_eq]
  exact Y0_itR2
end
end PL
end
section
namespace PL
open PySem PySem.Spec PyProof.Rows L2
theorem pys_ints : ∀ xs : List Int, D.pys (xs.map D.int) = some (xs.map PyData.int)
  | [] => rfl
  | x :: xs => by
    have := pys_ints xs
    rw [List.map_cons, D.pys, this]
    rfl
theorem lay_ints : ∀ xs : List Int, PyData.canLayAll0 (xs.map PyData.int) = true
  | [] => rfl
  | x :: xs => by
    have := lay_ints xs
    rw [List.map_cons, PyData.canLayAll0, this]
    rfl
theorem dep_ints : ∀ xs : List Int, PyData.depthAll (xs.map PyData.int) = 0
  | [] => rfl
  | x :: xs => by
    have := dep_ints xs
    rw [List.map_cons, PyData.depthAll, this]
    rfl
theorem shp_ints (xs : List Int) : SeqAt.shaped (.list (xs.map PyData.int)) = true := by
  have h1 : PyData.canLay0 (.list (xs.map PyData.int)) = true := by rw [PyData.canLay0]; exact lay_ints xs
  have h2 : PyData.depth (.list (xs.map PyData.int)) = 1 := by rw [PyData.depth, dep_ints]
  unfold SeqAt.shaped
  rw [h1, h2]
  rfl
theorem eqv_ints : ∀ xs ys : List Int, PyData.eqvAll (xs.map PyData.int) (ys.map PyData.int) = decide (xs = ys)
  | [], [] => rfl
  | [], _ :: _ => rfl
  | _ :: _, [] => rfl
  | x :: xs, y :: ys => by
    have := eqv_ints xs ys
    rw [List.map_cons, List.map_cons, PyData.eqvAll, this]
    show (x == y && decide (xs = ys)) = _
    (by_cases h1 : x = y <;> by_cases h2 : xs = ys <;> simp [h1, h2])
theorem eqL_ints (xs ys : List Int) : D.eq? (.lst (xs.map D.int)) (.lst (ys.map D.int)) = some (decide (xs = ys)) := by
  have e1 : D.py (.lst (xs.map D.int)) = some (.list (xs.map PyData.int)) := by rw [D.py, pys_ints]; rfl
  have e2 : D.py (.lst (ys.map D.int)) = some (.list (ys.map PyData.int)) := by rw [D.py, pys_ints]; rfl
  have h1 := shp_ints xs
  have h2 := shp_ints ys
  have h3 : PyData.eqv (.list (xs.map PyData.int)) (.list (ys.map PyData.int)) = decide (xs = ys) := by rw [PyData.eqv]; exact eqv_ints xs ys
  show (match D.py (.lst (xs.map D.int)), D.py (.lst (ys.map D.int)) with
    | some x, some y => if SeqAt.shaped x && SeqAt.shaped y then some (PyData.eqv x y) else none
    | _, _ => none) = _
  rw [e1, e2]
  simp [h1, h2, h3]
theorem neL_ints (xs ys : List Int) : dNe (.lst (xs.map D.int)) (.lst (ys.map D.int)) = some (.bl (!decide (xs = ys))) := by
  unfold dNe
  rw [eqL_ints]
  rfl
theorem in_ints (x : Int) (xs : List Int) : dIn (.int x) (.lst (xs.map D.int)) = some (.bl (decide (x ∈ xs))) := by
  unfold dIn dInB
  simp only [D.items, Option.bind_some, D.ints_map, Option.map_some]
  congr 2
  by_cases h : x ∈ xs <;> simp [h]
theorem qe_ii {i j : Int} : D.eq? (.int i) (.int j) = some (decide (i = j)) := id rfl
theorem qe_bb {i j : Bool} : D.eq? (.bl i) (.bl j) = some (i == j) := id rfl
theorem qe_ss {i j : Str} : D.eq? (.str i) (.str j) = some (decide (i = j)) := id rfl
theorem qe_nn : D.eq? .non .non = some true := id rfl
theorem qe_ni {i : Int} : D.eq? .non (.int i) = some false := id rfl
theorem qe_in {i : Int} : D.eq? (.int i) .non = some false := id rfl
theorem qe_nb {i : Bool} : D.eq? .non (.bl i) = some false := id rfl
theorem qe_bn {i : Bool} : D.eq? (.bl i) .non = some false := id rfl
theorem qe_ns {i : Str} : D.eq? .non (.str i) = some false := id rfl
theorem qe_sn {i : Str} : D.eq? (.str i) .non = some false := id rfl
theorem qe_is {i : Int} {s : Str} : D.eq? (.int i) (.str s) = some false := id rfl
theorem qe_si {i : Int} {s : Str} : D.eq? (.str s) (.int i) = some false := id rfl
theorem qe_bs {i : Bool} {s : Str} : D.eq? (.bl i) (.str s) = some false := id rfl
theorem qe_sb {i : Bool} {s : Str} : D.eq? (.str s) (.bl i) = some false := id rfl
theorem at_lt {α : Type} {l : List α} (i : Nat) (h : i < l.length) : atI l (i : Int) = l[i]? := by
  unfold atI ixN
  rw [if_pos (Int.natCast_nonneg i), if_pos (by omega)]
  simp
theorem at_0 {α : Type} {a : α} {l : List α} : atI (a :: l) 0 = some a := at_lt 0 (by simp)
theorem at_1 {α : Type} {a b : α} {l : List α} : atI (a :: b :: l) 1 = some b := at_lt 1 (by simp)
theorem at_2 {α : Type} {a b c : α} {l : List α} : atI (a :: b :: c :: l) 2 = some c := at_lt 2 (by simp)
theorem at_3 {α : Type} {a b c d : α} {l : List α} : atI (a :: b :: c :: d :: l) 3 = some d := at_lt 3 (by simp)
theorem at_4 {α : Type} {a b c d e : α} {l : List α} : atI (a :: b :: c :: d :: e :: l) 4 = some e := at_lt 4 (by simp)
theorem at_5 {α : Type} {a b c d e f : α} {l : List α} : atI (a :: b :: c :: d :: e :: f :: l) 5 = some f := at_lt 5 (by simp)
theorem at_6 {α : Type} {a b c d e f g : α} {l : List α} : atI (a :: b :: c :: d :: e :: f :: g :: l) 6 = some g := at_lt 6 (by simp)
theorem at_7 {α : Type} {a b c d e f g h : α} {l : List α} : atI (a :: b :: c :: d :: e :: f :: g :: h :: l) 7 = some h := at_lt 7 (by simp)
theorem ix_30 : ixN 3 0 = some 0 := by decide
theorem ix_31 : ixN 3 1 = some 1 := by decide
theorem ix_32 : ixN 3 2 = some 2 := by decide
def lk1 (j i : Nat) (xs : List D) (s : Sl) : Sl := match s with | .cel _ _ => if i = j then .dat (.lst xs) else .un | s => s
theorem lkS_c {j i : Nat} {xs : List D} {s : Sl} {r : List Sl} : lkS j xs i (s :: r) = lk1 j i xs s :: lkS j xs (i + 1) r := by cases s <;> rfl
theorem lkS_n {j i : Nat} {xs : List D} : lkS j xs i [] = [] := id rfl
theorem lk1_u {j i : Nat} {xs : List D} : lk1 j i xs .un = .un := id rfl
theorem lk1_d {j i : Nat} {xs : List D} {d : D} : lk1 j i xs (.dat d) = .dat d := id rfl
theorem lk1_x {j i : Nat} {xs : List D} {c : Cl} {d : Option D} : lk1 j i xs (.exn c d) = .exn c d := id rfl
theorem lk1_s {j : Nat} {xs : List D} {k : CK} {c : CC} : lk1 j j xs (.cel k c) = .dat (.lst xs) := if_pos rfl
theorem cs_u : canSet .un = true := id rfl
theorem cs_d {d : D} : canSet (.dat d) = true := id rfl
theorem cs_o {c : CC} : canSet (.cel .own c) = true := id rfl
theorem cs_x {c : Cl} {d : Option D} : canSet (.exn c d) = true := id rfl
theorem lk_b {n m : String} {x : Bool} {r : List (TyN × Bool)} : List.lookup (TyN.b n) ((TyN.b m, x) :: r) = if n = m then some x else List.lookup (TyN.b n) r := by
  rw [List.lookup_cons]
  by_cases e : n = m
  · subst e; simp
  · have : (TyN.b n == TyN.b m) = false := beq_eq_false_iff_ne.mpr fun z => e (by cases z; rfl)
    rw [this, if_neg e]
theorem lk_bo {n : String} {c : Cl} {x : Bool} {r : List (TyN × Bool)} : List.lookup (TyN.b n) ((TyN.o c, x) :: r) = List.lookup (TyN.b n) r := by
  rw [List.lookup_cons]
  have : (TyN.b n == TyN.o c) = false := beq_eq_false_iff_ne.mpr fun z => by cases z
  rw [this]
theorem lk_ob {n : String} {c : Cl} {x : Bool} {r : List (TyN × Bool)} : List.lookup (TyN.o c) ((TyN.b n, x) :: r) = List.lookup (TyN.o c) r := by
  rw [List.lookup_cons]
  have : (TyN.o c == TyN.b n) = false := beq_eq_false_iff_ne.mpr fun z => by cases z
  rw [this]
theorem lk_o {c d : Cl} {x : Bool} {r : List (TyN × Bool)} : List.lookup (TyN.o c) ((TyN.o d, x) :: r) = if c = d then some x else List.lookup (TyN.o c) r := by
  rw [List.lookup_cons]
  by_cases e : c = d
  · subst e; simp
  · have : (TyN.o c == TyN.o d) = false := beq_eq_false_iff_ne.mpr fun z => e (by cases z; rfl)
    rw [this, if_neg e]
theorem lk_c {c d : Cl} {x : Bool} {r : List (Cl × Bool)} : List.lookup c ((d, x) :: r) = if c = d then some x else List.lookup c r := by
  rw [List.lookup_cons]
  by_cases e : c = d
  · subst e; simp
  · have : (c == d) = false := beq_eq_false_iff_ne.mpr e
    rw [this, if_neg e]
theorem ty_n : D.tyN .non = some (.b "NoneType") := id rfl
theorem ty_b {b : Bool} : D.tyN (.bl b) = some (.b "bool") := id rfl
theorem ty_i {i : Int} : D.tyN (.int i) = some (.b "int") := id rfl
theorem ty_s {s : Str} : D.tyN (.str s) = some (.b "str") := id rfl
theorem ty_t {xs : List D} : D.tyN (.tup xs) = some (.b "tuple") := id rfl
theorem ty_l {xs : List D} : D.tyN (.lst xs) = some (.b "list") := id rfl
theorem ty_q {xs : List D} : D.tyN (.sq xs) = some (.b "list") := id rfl
theorem ty_o {c : Cl} {xs : List D} : D.tyN (.obj c xs) = some (.o c) := id rfl
theorem ex_sb {p : Bool} {Q : Bool → Prop} : (∃ z, some (D.bl p) = some (D.bl z) ∧ Q z) = Q p := propext ⟨fun ⟨_, e, q⟩ => by cases e; exact q, fun q => ⟨_, rfl, q⟩⟩
theorem fz_l {xs : List D} : CC.froz (.lst xs) = some (.lst xs) := id rfl
theorem fz_k {kvs : List (Key × D)} : CC.froz (.dK kvs) = some (.dK (kvs.map (·.1)) (kvs.map (·.2))) := id rfl
theorem fz_t {kvs : List (List Key × D)} : CC.froz (.dT kvs) = some (.dT (kvs.map (·.1)) (kvs.map (·.2))) := id rfl
theorem fz_lac {a b : D} : CC.froz (.obj .Lacquer [("a", a), ("b", b)]) = some (.obj .Lacquer [a, b]) := id rfl
theorem fz_cli {a : D} : CC.froz (.obj .Climate [("kinds", a)]) = some (.obj .Climate [a]) := id rfl
theorem fz_wea {a : D} : CC.froz (.obj .Weather [("lengths", a)]) = some (.obj .Weather [a]) := id rfl
theorem fz_rat {a b : D} : CC.froz (.obj .Ratio [("top", a), ("bottom", b)]) = some (.obj .Ratio [a, b]) := id rfl
theorem fz_ste {a : D} : CC.froz (.obj .StepSet [("steps", a)]) = some (.obj .StepSet [a]) := id rfl
theorem fz_web {a b : D} : CC.froz (.obj .StepWeb [("steps", a), ("climate", b)]) = some (.obj .StepWeb [a, b]) := id rfl
theorem fz_sky {a : D} : CC.froz (.obj .SkyWeb [("climate", a)]) = some (.obj .SkyWeb [a]) := id rfl
theorem fz_hab {a b : D} : CC.froz (.obj .Habit [("sight", a), ("rows", b)]) = some (.obj .Habit [a, b]) := id rfl
theorem fz_dia {a : D} : CC.froz (.obj .Diary [("marks", a)]) = some (.obj .Diary [a]) := id rfl
theorem pu_0 {f : Str} {d : D} : putD f d [] = [(f, d)] := id rfl
theorem pu_lac {a b : D} : putD "b" b [("a", a)] = ([("a", a), ("b", b)] : List (Str × D)) := id rfl
theorem pu_rat {a b : D} : putD "bottom" b [("top", a)] = ([("top", a), ("bottom", b)] : List (Str × D)) := id rfl
theorem pu_web {a b : D} : putD "climate" b [("steps", a)] = ([("steps", a), ("climate", b)] : List (Str × D)) := id rfl
theorem pu_hab {a b : D} : putD "rows" b [("sight", a)] = ([("sight", a), ("rows", b)] : List (Str × D)) := id rfl
/-- the signs of hours: true is damp -/
def sg (bs : List Bool) : Str := ⟨(bs.map fun b => if b = true then 35 else 46).toArray⟩
theorem sg_len (bs : List Bool) : (sg bs).length = bs.length := by
  show (List.toArray _).size = _
  (rw [List.size_toArray, List.length_map])
theorem sg_app (a b : List Bool) : sg a ++ sg b = sg (a ++ b) := by
  show (⟨_ ++ _⟩ : Str) = ⟨_⟩
  simp [sg]
theorem sg_dot : ((("." : String) : Str)) = sg [false] := by decide +kernel
theorem sg_hash : ((("#" : String) : Str)) = sg [true] := by decide +kernel
theorem sg_nil : ((("" : String) : Str)) = sg [] := by decide +kernel
theorem sg_inj {a b : List Bool} (h : sg a = sg b) : a = b := by
  have h : (a.map fun b => if b = true then 35 else 46) = (b.map fun b => if b = true then 35 else 46) := by
    have := congrArg (fun s : Str => s.cps.toList) h
    simpa [sg] using this
  rename_i h0
  clear h0
  induction a generalizing b with
  | nil => cases b <;> simp_all
  | cons x a ih =>
    cases b with
    | nil => simp at h
    | cons y b =>
      rw [List.map_cons, List.map_cons, List.cons.injEq] at h
      rw [ih h.2]
      congr 1
      have := h.1
      revert this
      cases x <;> cases y <;> simp
theorem sg_eq {a b : List Bool} : (sg a = sg b) = (a = b) := propext ⟨sg_inj, fun e => by rw [e]⟩
theorem sg1 {b c : Bool} : (sg [b] = sg [c]) = (b = c) := by rw [sg_eq]; simp
end PL
end
section
namespace GSF
open PySem PySem.Spec PyProof.Rows GenW L2
/-! the statements of a generator def that list() drains: if, for -/
section
variable {prog : Program} {w : World} {A : Around} {env : Env} {fs : List Frame} {s s₀ : Shared} {R : GenEnd} {Y : Protocol} {n : Nat}
def tailF (tg : Expr) (u : Value) (body : List Stmt) (env : Env) : Flow → Sem PySem.Fin := fun f => match f with
  | .next | .cont => .pure (.again (.forLoop tg u body [] env))
  | .brk => .pure (.done .next)
  | .ret v => .pure (.done (.ret v))
def tailX (env : Env) : Value → Sem PySem.Fin := fun e => (do noteFrame e env; theTreesLotGoes e : Sem Unit).wrap (fun _ => .raise e) .raise id id
/-- a loop's turn -/
theorem seg_turn {tg : Expr} {u : Value} {body : List Stmt}
    (h : wpAny (model prog w) (A.over (.forLoop tg u body [] env) fs) (pyNext u) (fun r z => match r with
      | none => Seg (model prog w) A R Y n s₀ (.block [] env) (leafOf (.ok .next)) fs z
      | some v => wpAny (model prog w) (A.over (.forLoop tg u body [] env) fs) (letOwnedTupleGo tg u v) (fun _ z1 => wpAny (model prog w) (A.over (.forLoop tg u body [] env) fs) (assign tg env v) (fun _ z2 =>
          Seg (model prog w) A R Y n s₀ (.forLoop tg u body [] env) ((execs body env).wrap (tailF tg u body env) (tailX env) id id) fs z2) (fun x z2 => Seg (model prog w) A R Y n s₀ (.forLoop tg u body [] env) (tailX env x) fs z2) z1) (fun _ _ => False) z)
      (fun _ _ => False) s) :
    Seg (model prog w) A R Y n s₀ (.forLoop tg u body [] env) ((model prog w).den (.forLoop tg u body [] env)) fs s := by
  show Seg _ A R Y n s₀ _ ((forTurn tg u body [] env).onRaise (fun x => do noteFrame x env; theTreesLotGoes x)) fs s
  rw [Sem.onRaise_eq_wrap]
  unfold forTurn
  (refine seg_bind_wrap (wpAny_standAt ?_))
  refine seg_bind_wrap (wpAny_onRaise (wpAny_mono h (fun r z q => ?_) fun _ _ q => q.elim))
  cases r with
  | none => exact seg_again rfl q
  | some v =>
    refine seg_bind_wrap (wpAny_mono q (fun _ z1 q1 => ?_) fun _ _ q => q.elim)
    refine seg_bind_wrap (wpAny_mono q1 (fun _ z2 q2 => ?_) fun x z2 q2 => ?_)
    · rw [Sem.bind_eq_wrap', Sem.wrap_wrap]
      rw [Sem.wrap_congr (execs body env) _ _ (K' := tailF tg u body env) (H' := tailX env) (fun f => by cases f <;> rfl)
        (fun e => by first | exact Sem.bind_eq_wrap _ _ | (show (do noteFrame e env; theTreesLotGoes e : Sem Unit).bind (fun _ => .raise e) = _; rw [Sem.bind_eq_wrap]; rfl))]
      exact q2
    · have e : Sem.bind (do noteFrame x env; theTreesLotGoes x : Sem Unit) (fun _ => (Sem.raise x : Sem PySem.Fin)) = tailX env x := Sem.bind_eq_wrap _ _
      show Seg _ _ _ _ _ _ _ (Sem.bind (do noteFrame x env; theTreesLotGoes x : Sem Unit) (fun _ => (Sem.raise x : Sem PySem.Fin))) _ _
      rw [e]
      exact q2
end
section
variable {M : Model} {A : Around} {R : GenEnd} {Y : Protocol} {n : Nat} {s₀ : Shared} {c : Code} {fs : List Frame} {s : Shared} {env : Env} {K : Flow → Sem PySem.Fin} {J : Value → Sem PySem.Fin} {gd : Bool → Bool} {lv : List Value → List Value}
def outF (r : Result) : Sem Flow := match r with
  | .ok f => .pure f
  | .error e => .raise e
/-- where a loop's code stands over the frame that began it -/
def retF (env : Env) (K : Flow → Sem PySem.Fin) (J : Value → Sem PySem.Fin) (gd : Bool → Bool) (lv : List Value → List Value) (c : Code) (p : Pos) : Frame :=
  .ret (fun r => ((outF r).onRaise (cameBack env)).wrap K J gd lv) none (gd false) (lv []) c p []
/-- a loop's beginning -/
theorem seg_start {tg it : Expr} {body : List Stmt} {pos : Pos} (hs : ∀ x, foldedSetIterable it env x = pure x)
    (h : wpAny M (A.over c fs) (eval it env) (fun v z => wpAny M (A.over c fs) (pyIter v) (fun u z' => ∀ p,
        Seg M A R Y n s₀ (.forLoop tg u body [] env) (M.den (.forLoop tg u body [] env))
          (retF env K J gd lv c p :: fs) z') (fun x z' => Seg M A R Y n s₀ c (J x) fs z') z) (fun x z => Seg M A R Y n s₀ c (J x) fs z) s) :
    Seg M A R Y n s₀ c ((exec (.For tg it body [] pos) env).wrap K J gd lv) fs s := by
  rw [exec_For]
  (refine seg_bind_wrap (wpAny_standAt ?_))
  refine seg_bind_wrap (wpAny_mono h (fun v z q => ?_) fun _ _ q => q)
  refine seg_bind_wrap (wpAny_of_eq (hs v) ?_)
  (refine seg_bind_wrap (wpAny_standAt ?_))
  refine seg_bind_wrap (wpAny_holding (wpAny_mono q (fun u z' q' => ?_) fun _ _ q => q))
  exact seg_call fun p => q' p
end
section
variable {X : Cx}
/-! if -/
def tGIf (c : TT) (ta tb : TGn) : TGn := fun D ys σ H => c σ H fun b H1 => if b = true then ta D ys σ H1 else tb D ys σ H1
/-! for -/
def tGFor (wi : TI) (g : TG) (tb : TGn) : TGn := fun D ys σ H => wi σ H fun J H1 => ∃ W : Nat → Nat → List V → L2.St → Hp → Prop, (∃ m, W 0 m ys σ H1) ∧ ∀ i m ys σ H, W i m ys σ H →
  (J.stop i H ∧ D.nx ys σ H) ∨ (J.go i H ∧ ∃ N : List V → L2.St → Hp → Prop, (∀ ys' σ' H', N ys' σ' H' → ∃ m', m' < m ∧ W (i + 1) m' ys' σ' H') ∧ ∀ x H', J.yld i H x H' → g x σ H' fun σ2 H2 => tb { D with nx := N, ct := N, bk := D.nx } ys σ2 H2)
theorem gs_for {tg iter : Expr} {body : List Stmt} {wi : TI} {tgt : TG} {tb : TGn} {pos : Pos} (hp : PassesOwn (model X.prog X.w) X.A X.env X.xe) (hc : X.calm = true) (hi : PI X tg iter wi) (hg : PG X tg tgt) (hb : GSs X body tb)
    (hs : ∀ x, foldedSetIterable iter X.env x = pure x := by intro _; rfl) : GS X (.For tg iter body [] pos) (tGFor wi tgt tb) := by
  (refine ⟨fun A S ip R n ys s₀ c fs K J gd lv s σ H D g hn k hI ht => ?_⟩)
  obtain ⟨acc, cc, r, I⟩ := hI
  have eS : H S = none ∧ s.heap.get? S = some (lstObj acc cc) := let z := I.pin (S, lstObj acc cc) (List.mem_append_right _ List.mem_cons_self); ⟨z.2.1, z.1⟩
  refine seg_start hs ?_
  rw [g.over]
  refine wpAny_mono (hi.run _ s σ H _ I ht) (fun v s1 h1 => ?_) fun x s' hx => k.exc n s₀ x s' hx
  refine wpAny_mono h1 (fun itv s2 h2 p => ?_) fun x s' hx => k.exc n s₀ x s' hx
  obtain ⟨it, fp, tn, Jt, H2, e, I2, T, st2, f2, W, ⟨m0, w0⟩, turn⟩ := h2
  subst e
  have gl : GC X S ip A (.forLoop tg (.ref it) body [] X.env) (retF X.env K J gd lv c p :: fs) id := gc_loop (c' := .forLoop tg (.ref it) body [] X.env) g rfl rfl
  have nS : ∀ b ∈ fp, S ≠ b := fun b hb => (f2 b hb).2.2.2.2.2 (S, lstObj acc cc) (List.mem_append_right _ List.mem_cons_self)
  have stat : ∀ {H' : Hp} {acc' : Array Value} {cc' : Nat}, (∀ b ∈ fp, H' b = none) → ∀ b ∈ fp, FpOk X ((S, lstObj acc' cc') :: ip) H' b := fun {H' acc' cc'} hn b hb => by
    obtain ⟨_, h1, h2, h3, h4, h5⟩ := f2 b hb
    refine ⟨hn b hb, h1, h2, h3, h4, fun q hq => ?_⟩
    rcases List.mem_append.mp hq with z | z
    · exact h5 q (List.mem_append_left _ z)
    · (rcases List.mem_cons.mp z with z | z)
      · rw [z]; exact nS b hb
      · exact h5 q (List.mem_append_right _ (List.mem_cons_of_mem _ z))
  have loop : ∀ (m i n : Nat) (ys : List V) (s₀ s : Shared) (σ : L2.St) (H : Hp), n + ys.length = sizeLine → W i m ys σ H → GI X S ip ys σ H s → tn i s.heap → (∀ b ∈ fp, H b = none) →
      Seg (model X.prog X.w) A R (GY X S) n s₀ (.forLoop tg (.ref it) body [] X.env) ((model X.prog X.w).den (.forLoop tg (.ref it) body [] X.env))
        (retF X.env K J gd lv c p :: fs) s := by
    intro mm
    induction mm using Nat.strongRecOn with
    | ind m ih =>
      intro i n ys s₀ s σ H hn w hI st fr
      have ee : ∀ (n : Nat) (s₀ : Shared) (x : Value) (s' : Shared), X.xe x s' → Seg (model X.prog X.w) A R (GY X S) n s₀ (.forLoop tg (.ref it) body [] X.env) (tailX X.env x)
          (retF X.env K J gd lv c p :: fs) s' := fun n s₀ x s' hx => by
        unfold tailX
        refine seg_wrap ?_
        rw [gl.over]
        (refine wpAny_bind (wpAny_mono (hp x s' hx) (fun _ s'' hcb => wpAny_theTreesLotGoes ?_) fun y s'' hcb => ?_))
        · (exact seg_leaf (.error x) (seg_cameBack g k hcb))
        · (exact seg_leaf (.error y) (seg_cameBack g k hcb))
      obtain ⟨acc, cc, r, I⟩ := hI
      refine seg_turn ?_
      rw [gl.over]
      rcases turn i m ys σ H w with ⟨stop, qn⟩ | ⟨go, N, hN, step⟩
      · refine wpAny_mono (T.done X rfl rfl rfl hc i _ s σ H (fun _ _ => False) I (stat fr) st stop) (fun r1 s1 ⟨hr, I1⟩ => ?_) fun _ _ q => q
        subst hr
        exact seg_leaf (.ok .next) (k.ok n ys s₀ s1 .next hn ⟨σ, H, ⟨acc, cc, r, I1⟩, qn⟩)
      · refine wpAny_mono (T.item X rfl rfl rfl hc i _ s σ H (fun _ _ => False) I (stat fr) st go) (fun r1 s1 ⟨u, hr, h4⟩ => ?_) fun _ _ q => q
        subst hr
        refine wpAny_mono h4 (fun _ s5 ⟨x, H5, I5, r5, y5, st5, fr5⟩ => ?_) fun _ _ q => q.elim
        (have I5' := I5.pinned (stat fr5) (T.obj _ _ st5))
        refine wpAny_mono (hg.run _ s5 σ H5 x u _ I5' r5 (step x H5 y5)) (fun _ s6 ⟨σ6, H6, I6, q6⟩ => ?_) fun x s' hx => ee n s₀ x s' hx
        have ipn : ∀ q ∈ ip ++ pinsAt fp s5.heap, q.1 ≠ S := fun q hq => by
          rcases List.mem_append.mp hq with z | z
          · exact g.ip q z
          · exact Ne.symm (nS q.1 (of_pinsAt z).1)
        have gl2 : GC X S (ip ++ pinsAt fp s5.heap) A (.forLoop tg (.ref it) body [] X.env) (retF X.env K J gd lv c p :: fs) id :=
          ⟨g.pn, ipn, g.apart, gl.over, gl.split, gl.guard, rfl⟩
        have back : ∀ {ys' : List V} {σ' : L2.St} {H' : Hp} {s' : Shared}, GI X S (ip ++ pinsAt fp s5.heap) ys' σ' H' s' → GI X S ip ys' σ' H' s' ∧ tn (i + 1) s'.heap ∧ ∀ b ∈ fp, H' b = none := fun {ys' σ' H' s'} ⟨acc', cc', r', I'⟩ => by
          have pin : ∀ b ∈ fp, ∀ o, s5.heap.get? b = some o → s'.heap.get? b = some o ∧ H' b = none := fun b hb o e =>
            let z := I'.pin (b, o) (List.mem_append_right _ (List.mem_cons_of_mem _ (List.mem_append_right _ (mem_pinsAt hb e))))
            ⟨z.1, z.2.1⟩
          refine ⟨⟨acc', cc', r', I'.pins_of fun q hq => I'.pin q ?_⟩, T.keep _ _ _ st5 fun b hb o e => (pin b hb o e).1, fun b hb => ?_⟩
          · refine List.mem_append_right _ ?_
            rcases List.mem_cons.mp hq with z | z
            · rw [z]; exact List.mem_cons_self
            · exact List.mem_cons_of_mem _ (List.mem_append_left _ z)
          · obtain ⟨o, e, _⟩ := T.obj _ _ st5 b hb
            exact (pin b hb o e).2
        refine hb.run A S (ip ++ pinsAt fp s5.heap) R n ys s₀ _ _ _ _ id id s6 σ6 H6 { D with nx := N, ct := N, bk := D.nx } gl2 hn ⟨fun n' ys' s₀' s7 f hn' hs => ?_, fun n' s₀' x s7 hx => ee n' s₀' x s7 hx⟩ ⟨acc, cc, r, I6⟩ q6
        cases f with
        | next =>
          obtain ⟨σ7, H7, I7, n7⟩ := hs
          obtain ⟨m', hm, w7⟩ := hN ys' σ7 H7 n7
          obtain ⟨b1, b2, b3⟩ := back I7
          exact seg_again rfl (ih m' hm (i + 1) n' ys' s₀' s7 σ7 H7 hn' w7 b1 b2 b3)
        | cont =>
          obtain ⟨σ7, H7, I7, n7⟩ := hs
          obtain ⟨m', hm, w7⟩ := hN ys' σ7 H7 n7
          obtain ⟨b1, b2, b3⟩ := back I7
          exact seg_again rfl (ih m' hm (i + 1) n' ys' s₀' s7 σ7 H7 hn' w7 b1 b2 b3)
        | brk =>
          obtain ⟨σ7, H7, I7, n7⟩ := hs
          exact seg_leaf (.ok .next) (k.ok n' ys' s₀' s7 .next hn' ⟨σ7, H7, (back I7).1, n7⟩)
        | ret v =>
          obtain ⟨v7, σ7, H7, I7, r7, n7⟩ := hs
          exact seg_leaf (.ok (.ret v)) (k.ok n' ys' s₀' s7 (.ret v) hn' ⟨v7, σ7, H7, (back I7).1, r7, n7⟩)
  exact loop m0 0 n ys s₀ s2 σ H2 hn w0 ⟨acc, cc, r, I2⟩ st2 fun b hb => (f2 b hb).1
end
end GSF
end
section
namespace PL
open PySem PySem.Spec PyProof.Rows L2 GSF
variable {K : PySem.W.Frag} {ad : Cl → Addr} {ct : CT}
variable {fr : Fr} {F F' H H' : Hp} {σ : L2.St} {ρ : List Sl} {W : WX}
/-! a generator def that list() drains: what it hands out is a list -/
abbrev MG := List D → M (Fl × List D)
def gP (m : M Fl) : MG := fun ys => bnd m fun f => pur (f, ys)
def gY (e : Ev) : MG := fun ys => bnd (dat e) fun d => if ys.length < 16777216 then pur (.nx, ys ++ [d]) else fai
def gSeq (a b : MG) : MG := fun ys => bnd (a ys) fun x => match x.1 with | .nx => b x.2 | _ => pur x
def gIf (c : M Bool) (a b : MG) : MG := fun ys => bnd c fun t => if t then a ys else b ys
def gNx : MG := fun ys => pur (.nx, ys)
def gLoop (tg : Tg) (b : MG) : List D → MG
  | [], ys => pur (.nx, ys)
  | x :: xs, ys => bnd (asgT tg x) fun f => match f with
    | .nx => bnd (b ys) fun r => match r.1 with
      | .nx => gLoop tg b xs r.2
      | .ct => gLoop tg b xs r.2
      | .bk => pur (.nx, r.2)
      | .rt x => pur (.rt x, r.2)
    | _ => fai
def gFor (it : M (List D)) (tg : Tg) (b : MG) : MG := fun ys => bnd it fun xs => gLoop tg b xs ys
/-- a call: what comes out is a new list -/
def runG (k : Nat) (m : MG) : Fn := fun ss => match m [] (ss ++ List.replicate k .un) with
  | some (.ok (.nx, out), ρ) => some (.ok (.c (.lst out)), outs ss ρ)
  | _ => none
variable (K ct) in
def GSat (D : GEnds) (fr : Fr) (F : Hp) (ρ : List Sl) (m : M (Fl × List PL.D)) : Prop := ∃ f out ρ', m ρ = some (.ok (f, out), ρ') ∧ ∀ ys σ' F' H', Same F F' → Rel K ct fr F' H' σ' ρ' → Rps K ct.ad F' ys out → match f with
  | .nx => D.nx ys σ' H'
  | .bk => D.bk ys σ' H'
  | .ct => D.ct ys σ' H'
  | .rt _ => False
variable (K ct) in
def TGS (m : MG) : TGn := fun D ys σ H => ∃ fr F ρ ds, Rel K ct fr F H σ ρ ∧ Rps K ct.ad F ys ds ∧ GSat K ct D fr F ρ (m ds)
theorem GSat.mono {D : GEnds} {m : M (Fl × List PL.D)} (h : GSat K ct D fr F ρ m) (s : Same F F') : GSat K ct D fr F' ρ m := by
  obtain ⟨f, out, ρ', e, q⟩ := h
  exact ⟨f, out, ρ', e, fun ys σ' F1 H1 s1 => q ys σ' F1 H1 (s.trans s1)⟩
theorem GSat.bnd {α β : Type} {R : Rel3 β α} {D : GEnds} {m : M α} {k : α → M (Fl × List PL.D)} {Q1 : β → Hp → Prop} (h : GSat K ct D fr F ρ (PL.bnd m k)) (S : Rel K ct fr F H σ ρ)
    (hq : ∀ F1 H1 ρ1 v a, Same F F1 → Rel K ct fr F1 H1 σ ρ1 → R fr F1 H1 σ ρ1 v a → GSat K ct D fr F1 ρ1 (k a) → Q1 v H1) : T K ct R (fun _ _ _ _ => False) m σ H Q1 := by
  refine ⟨fr, F, ρ, S, ?_⟩
  obtain ⟨f, out, ρ', e, q⟩ := h
  unfold PL.bnd at e
  cases em : m ρ with
  | none => rw [em] at e; cases e
  | some x =>
    obtain ⟨r1, ρ1⟩ := x
    rw [em] at e
    cases r1 with
    | ok a => exact ⟨.ok a, ρ1, em, fun v F1 H1 s1 S1 r1 => hq F1 H1 ρ1 v a s1 S1 r1 ⟨f, out, ρ', e, fun ys σ' F' H' s' => q ys σ' F' H' (s1.trans s')⟩⟩
    | er c pl => cases e
theorem GSat.dat {D : GEnds} {m : Ev} {k : PL.D → M (Fl × List PL.D)} {Q1 : V → Hp → Prop} (h : GSat K ct D fr F ρ (PL.bnd (PL.dat m) k)) (S : Rel K ct fr F H σ ρ)
    (hq : ∀ F1 H1 ρ1 v d, Same F F1 → Rel K ct fr F1 H1 σ ρ1 → Rp K ct.ad F1 v d → GSat K ct D fr F1 ρ1 (k d) → Q1 v H1) : T K ct (RV K ct.ad) (fun _ _ _ _ => False) m σ H Q1 := by
  have e : PL.bnd (PL.dat m) k = PL.bnd m fun r => PL.bnd (match r with | Rv.d d => pur d | Rv.c c => PL.opt c.froz) k := by
    funext ρ
    unfold PL.dat PL.bnd
    cases em : m ρ with
    | none => rfl
    | some x =>
      obtain ⟨r1, ρ1⟩ := x
      cases r1 with
      | ok a => cases a <;> rfl
      | er c pl => rfl
  rw [e] at h
  refine GSat.bnd h S fun F1 H1 ρ1 v r s1 S1 r1 q => ?_
  cases r with
  | d d => exact hq F1 H1 ρ1 v d s1 S1 r1 q
  | c c =>
    obtain ⟨p, ev, fp⟩ := r1
    subst ev
    cases ef : c.froz with
    | none =>
      obtain ⟨f, out, ρ', e, q⟩ := q
      have e : PL.bnd (PL.opt c.froz) k ρ1 = some (.ok (f, out), ρ') := e
      rw [ef] at e
      cases e
    | some d =>
      obtain ⟨F2, s2, rp, S2⟩ := fp.frz S1 ef
      refine hq F2 H1 ρ1 _ d (s1.trans s2) S2 rp ?_
      have q2 := q.mono s2
      obtain ⟨f, out, ρ', e, q⟩ := q2
      have e : PL.bnd (PL.opt c.froz) k ρ1 = some (.ok (f, out), ρ') := e
      rw [ef] at e
      exact ⟨f, out, ρ', e, q⟩
section
variable {X : Cx} {st : Stmt} {rest : List Stmt} {a b : MG}
theorem _root_.L2.GS.imp {t t' : TGn} (h : GS X st t) (w : ∀ D ys σ H, t' D ys σ H → t D ys σ H) : GS X st t' := ⟨fun A S ip R n ys s₀ c fs K J gd lv s σ H D g hn k hI ht => h.run A S ip R n ys s₀ c fs K J gd lv s σ H D g hn k hI (w _ _ _ _ ht)⟩
theorem _root_.L2.GSs.imp {t t' : TGn} (h : GSs X rest t) (w : ∀ D ys σ H, t' D ys σ H → t D ys σ H) : GSs X rest t' := ⟨fun A S ip R n ys s₀ c fs K J gd lv s σ H D g hn k hI ht => h.run A S ip R n ys s₀ c fs K J gd lv s σ H D g hn k hI (w _ _ _ _ ht)⟩
theorem g_y {e : Expr} {m : Ev} {yp pos : Pos} (he : PE X.nox e (TP K ct (fun _ _ _ _ => False) m)) (hco : X.env.scope.isCoroutine = false := by rfl) (hi : interactive X.env = false := by rfl) : GS X (.Expr (.Yield (some e) yp) pos) (TGS K ct (gY m)) := (gs_yield he.nox hco hi).imp fun D ys σ H ⟨fr, F, ρ, ds, S, r, h⟩ => by
  have lt : ys.length < sizeLine := by
    rw [sizeLine_eq, r.len]
    by_cases l : ds.length < 16777216
    · exact l
    · exfalso
      obtain ⟨f, out, ρ', e, q⟩ := h
      have e : PL.bnd (PL.dat m) (fun d => if ds.length < 16777216 then pur (Fl.nx, ds ++ [d]) else fai) ρ = some (.ok (f, out), ρ') := e
      unfold PL.bnd at e
      cases em : PL.dat m ρ with
      | none => rw [em] at e; cases e
      | some x =>
        obtain ⟨r1, ρ1⟩ := x
        rw [em] at e
        cases r1 with
        | er c pl => cases e
        | ok d =>
          have e : (if ds.length < 16777216 then pur (Fl.nx, ds ++ [d]) else fai : M (Fl × List PL.D)) ρ1 = some (.ok (f, out), ρ') := e
          rw [if_neg l] at e
          cases e
  refine ⟨lt, GSat.dat h S fun F1 H1 ρ1 v d s1 S1 r1 h1 => ?_⟩
  rw [if_pos (by rw [← r.len]; rw [sizeLine_eq] at lt; exact lt)] at h1
  obtain ⟨f, out, ρ', e, q⟩ := h1
  cases e
  exact q (ys ++ [v]) σ F1 H1 (Same.refl _) S1 ((r.mono s1).snoc r1)
theorem g_nil : GSs X [] (TGS K ct gNx) := gss_nil.imp fun D ys σ H ⟨fr, F, ρ, ds, S, r, f, out, ρ', e, q⟩ => by
  cases e
  exact q ys σ F H (Same.refl _) S r
theorem g_c (h1 : GS X st (TGS K ct a)) (h2 : GSs X rest (TGS K ct b)) : GSs X (st :: rest) (TGS K ct (gSeq a b)) := (gss_cons h1 h2).imp fun D ys σ H ⟨fr, F, ρ, ds, S, r, f, out, ρ', e, q⟩ => by
  have e : PL.bnd (a ds) (fun x => match x.1 with | .nx => b x.2 | _ => pur x) ρ = some (.ok (f, out), ρ') := e
  unfold PL.bnd at e
  cases em : a ds ρ with
  | none => rw [em] at e; cases e
  | some x =>
    obtain ⟨r1, ρ1⟩ := x
    rw [em] at e
    cases r1 with
    | er c pl => cases e
    | ok y =>
      obtain ⟨fl, o1⟩ := y
      refine ⟨fr, F, ρ, ds, S, r, fl, o1, ρ1, em, ?_⟩
      cases fl with
      | nx => exact fun ys' σ' F' H' s' S' r' => ⟨fr, F', ρ1, o1, S', r', f, out, ρ', e, fun ys2 σ2 F2 H2 s2 => q ys2 σ2 F2 H2 (s'.trans s2)⟩
      | bk => cases e; exact q
      | ct => cases e; exact q
      | rt x => cases e; exact q
theorem pi_nox {tg iter : Expr} {wi : TI} (h : PI X.nox tg iter wi) : PI X tg iter wi := ⟨fun pins s σ H R I hw => wpAny_mono (h.run pins s σ H R (I.wish _) hw) (fun v s1 q => wpAny_mono q (fun u s2 ⟨it, fp, tn, J, H', e, I2, T, st, f, r⟩ => ⟨it, fp, tn, J, H', e, I2.unwish, T, st, f, r⟩) fun _ _ z => False.elim z) fun _ _ z => False.elim z⟩
theorem pg_nox {tg : Expr} {t : TG} (h : PG X.nox tg t) : PG X tg t := ⟨fun pins s σ H v u Q I r q => wpAny_mono (h.run pins s σ H v u Q (I.wish _) r q) (fun _ _ ⟨σ', H', I', q'⟩ => ⟨σ', H', I'.unwish, q'⟩) fun _ _ z => False.elim z⟩
theorem g_for {tg iter : Expr} {body : List Stmt} {it : M (List PL.D)} {t : Tg} {pos : Pos} (hp : PassesOwn (model X.prog X.w) X.A X.env X.xe) (hc : X.calm = true) (hi : PI X.nox tg iter (TIt K ct (fun _ _ _ _ => False) it)) (hg : PG X.nox tg (TGt K ct t)) (hb : GSs X body (TGS K ct b))
    (hs : ∀ x, foldedSetIterable iter X.env x = pure x := by intro _; rfl) : GS X (.For tg iter body [] pos) (TGS K ct (gFor it t b)) := (gs_for hp hc (pi_nox hi) (pg_nox hg) hb hs).imp fun D ys σ H ⟨fr, F, ρ, ds, S, r, h⟩ => by
  refine GSat.bnd h S fun F1 H1 ρ1 J xs s1 S1 r1 h1 => ?_
  refine ⟨fun i m ys σ H => m = xs.length - i ∧ i ≤ xs.length ∧ ∃ F2 ρ2 ds2, Same F1 F2 ∧ Rel K ct fr F2 H σ ρ2 ∧ Rps K ct.ad F2 ys ds2 ∧ GSat K ct D fr F2 ρ2 (gLoop t b (xs.drop i) ds2), ⟨xs.length, by simp, Nat.zero_le _, F1, ρ1, ds, Same.refl _, S1, r.mono s1, h1⟩, ?_⟩
  rintro i m ys2 σ2 H2 ⟨rfl, hi, F2, ρ2, ds2, s2, S2, r2, h2⟩
  have it := r1 F2 H2 s2 S2.fh i
  by_cases lt : i < xs.length
  · refine .inr ?_
    obtain ⟨go, yl⟩ := it.1 xs[i] (List.getElem?_eq_getElem lt)
    refine ⟨go, fun ys' σ' H' => ∃ F3 ρ3 ds3, Same F1 F3 ∧ Rel K ct fr F3 H' σ' ρ3 ∧ Rps K ct.ad F3 ys' ds3 ∧ GSat K ct D fr F3 ρ3 (gLoop t b (xs.drop (i + 1)) ds3), fun ys' σ' H' ⟨F3, ρ3, ds3, s3, S3, r3, h3⟩ => ⟨xs.length - (i + 1), by omega, rfl, lt, F3, ρ3, ds3, s3, S3, r3, h3⟩, fun v H3 y => ?_⟩
    obtain ⟨F3, al, rp⟩ := yl v H3 y
    have S3 := S2.al al
    rw [List.drop_eq_getElem_cons lt] at h2
    have h2 := GSat.mono h2 al.1
    obtain ⟨f, out, ρ', e, q⟩ := h2
    unfold gLoop PL.bnd at e
    cases ea : asgT t xs[i] ρ2 with
    | none => rw [ea] at e; cases e
    | some x =>
      obtain ⟨rx, ρ4⟩ := x
      rw [ea] at e
      cases rx with
      | er c pl => cases e
      | ok fl =>
        cases fl with
        | nx =>
          refine ⟨fr, F3, ρ2, xs[i], ρ4, S3, rp, ea, fun σ4 F4 H4 s4 _ S4 => ⟨fr, F4, ρ4, ds2, S4, r2.mono (al.1.trans s4), ?_⟩⟩
          have sF : Same F1 F4 := (s2.trans al.1).trans s4
          have e : PL.bnd (b ds2) (fun r => match r.1 with | .nx => gLoop t b (xs.drop (i + 1)) r.2 | .ct => gLoop t b (xs.drop (i + 1)) r.2 | .bk => pur (.nx, r.2) | .rt x => pur (.rt x, r.2)) ρ4 = some (.ok (f, out), ρ') := e
          unfold PL.bnd at e
          cases eb : b ds2 ρ4 with
          | none => rw [eb] at e; cases e
          | some y =>
            obtain ⟨ry, ρ5⟩ := y
            rw [eb] at e
            cases ry with
            | er c pl => cases e
            | ok z =>
              obtain ⟨fl, o1⟩ := z
              refine ⟨fl, o1, ρ5, eb, ?_⟩
              have next : ∀ (e : gLoop t b (xs.drop (i + 1)) o1 ρ5 = some (.ok (f, out), ρ')) ys' σ' F' H', Same F4 F' → Rel K ct fr F' H' σ' ρ5 → Rps K ct.ad F' ys' o1 → ∃ F3 ρ3 ds3, Same F1 F3 ∧ Rel K ct fr F3 H' σ' ρ3 ∧ Rps K ct.ad F3 ys' ds3 ∧ GSat K ct D fr F3 ρ3 (gLoop t b (xs.drop (i + 1)) ds3) := fun e ys' σ' F' H' s' S' r' =>
                ⟨F', ρ5, o1, sF.trans s', S', r', GSat.mono (F := F3) ⟨f, out, ρ', e, q⟩ (s4.trans s')⟩
              cases fl with
              | nx => exact fun ys' σ' F' H' s' S' r' => next e ys' σ' F' H' s' S' r'
              | ct => exact fun ys' σ' F' H' s' S' r' => next e ys' σ' F' H' s' S' r'
              | bk => cases e; exact fun ys' σ' F' H' s' S' r' => q ys' σ' F' H' (s4.trans s') S' r'
              | rt x => cases e; exact fun ys' σ' F' H' s' S' r' => q ys' σ' F' H' (s4.trans s') S' r'
        | _ => cases e
  · refine .inl ⟨it.2 (by omega), ?_⟩
    rw [List.drop_eq_nil_of_le (by omega)] at h2
    obtain ⟨f, out, ρ', e, q⟩ := h2
    cases e
    exact q ys2 σ2 F2 H2 (Same.refl _) S2 r2
end
/-! the def -/
variable (K ad) in
def spG (n k : Nat) (m : MG) : SpG := fun vs H Q _ => vs.length = n ∧ ∃ fr F ss, Rel K (cx ad) fr F H (vs.map some) ss ∧ ∃ out ρ', m [] (ss ++ List.replicate k .un) = some (.ok (.nx, out), ρ') ∧ ∀ ys F' H', Same F F' → Rel K (cx ad) fr F' H' (vs.map some) (outs ss ρ') → Rps K ad F' ys out → Q ys H'
theorem Rel.start {n k : Nat} {vs : List V} {N : List Str} {ss : List Sl} (hn : vs.length = n) (hN : N.length = n + k) (S : Rel K (cx ad) fr F H (vs.map some) ss) : Rel K (cx ad) fr F H (L2.start N vs) (ss ++ List.replicate k .un) := by
  have l1 : vs.length = ss.length := by have := S.len; rw [List.length_map] at this; exact this
  have ek : N.length - vs.length = k := by omega
  unfold L2.start
  rw [ek]
  have cel : ∀ {i : Nat} {k' : CK} {c : CC}, (ss ++ List.replicate k Sl.un)[i]? = some (.cel k' c) → ss[i]? = some (.cel k' c) := fun {i k' c} z => by
    by_cases l : i < ss.length
    · rw [List.getElem?_append_left l] at z; exact z
    · rw [List.getElem?_append_right (by omega), List.getElem?_replicate] at z
      split at z <;> cases z
  have get : ∀ {i : Nat}, i < ss.length → (vs.map some ++ List.replicate k (none : Option V))[i]? = (vs.map some)[i]? := fun {i} l => List.getElem?_append_left (by rw [List.length_map]; omega)
  refine ⟨by simp [l1], S.fh, fun i s0 z => ?_, fun i j k1 c k2 c' p z1 z2 z3 z4 => ?_, S.keep, S.fro, fun i p z => ?_⟩
  · by_cases l : i < ss.length
    · rw [List.getElem?_append_left l] at z
      obtain ⟨o, g1, g2⟩ := S.slot i s0 z
      exact ⟨o, by rw [get l]; exact g1, g2⟩
    · have l3 := (List.getElem?_eq_some_iff.mp z).1
      rw [List.getElem?_append_right (by omega), List.getElem?_replicate] at z
      split at z
      · cases z
        refine ⟨none, ?_, trivial⟩
        rw [List.getElem?_append_right (by rw [List.length_map]; omega), List.getElem?_replicate, if_pos (by simp at l3 ⊢; omega)]
      · cases z
  · have y1 := cel z1
    have y2 := cel z2
    rw [get (List.getElem?_eq_some_iff.mp y1).1] at z3
    rw [get (List.getElem?_eq_some_iff.mp y2).1] at z4
    exact S.dis i j _ _ _ _ p y1 y2 z3 z4
  · obtain ⟨k1, c, h1, h2⟩ := S.pcs i p z
    exact ⟨k1, c, by rw [List.getElem?_append_left (List.getElem?_eq_some_iff.mp h1).1]; exact h1, h2⟩
theorem body_endG {n k : Nat} {m : MG} {vs : List V} {N : List Str} {H : Hp} {Q : List V → Hp → Prop} {E : XK} (hN : N.length = n + k) (h : spG K ad n k m vs H Q E) :
    TGS K (cx ad) m { nx := fun ys _ H' => Q ys H', rt := fun ys v H' => v = .non ∧ Q ys H' } [] (L2.start N vs) H := by
  obtain ⟨hn, fr, F, ss, S, out, ρ', e, q⟩ := h
  exact ⟨fr, F, _, [], Rel.start hn hN S, .nil, .nx, out, ρ', e, fun ys σ' F' H' s S' r => q ys F' H' s (S.outs S' s) r⟩
section
variable {P : Program} {w : World} {mg : Str → Option Value} {base : Heap} {x qual : Str} {st : Stmt} {f : Addr} {fd : FuncData} {N ps : List Str} {lv : Nat} {n k : Nat} {m : MG}
theorem okG (Fd : L2.Fun K x qual st f fd) (S : GScope N ps (defScope st)) (hp : ps.length = n) (hN : N.length = n + k)
    (hb : ∀ (cdv : Value) (A : Around) (outer : List Env) (s0 : Shared) (H : Hp) (E : XK) (pn : List (Addr × Obj)), Room lv (A.deeper (envOfC qual (defScope st) s0.heap.objs.size f cdv)) →
      GSs (gcxOf P w K mg base N qual (defScope st) f cdv A outer s0 H E pn) (defBody st) (TGS K (cx ad) m)) : GFn P w K mg base (lv + 1) f fd ps (spG K ad n k m) := by
  obtain ⟨oc, od, kV, doc, pm, an, cdv, ct, osl, rfl, lk, hcd⟩ := Fd.ex
  exact gfn_of lk hcd S (fun vs H Q E h => by rw [hp]; exact h.1) fun A outer s H vs Q E pn hr h => ⟨_, hb cdv A outer s H E pn hr, body_endG hN h⟩
end
/-! list(g) -/
theorem spP_G {n k : Nat} {m : MG} {vs : List V} {H : Hp} {Q : VK} {E E' : XK} (h : spP K ad n (runG k m) vs H Q E) : spG K ad n k m vs H (fun ys H2 => ∀ p, H2 p = none → Q (.ref p) (upd H2 p (.lst ys))) E' := by
  obtain ⟨hn, fr, F, ss, S, hP, hF, r, ss', e, q⟩ := h
  unfold runG at e
  split at e
  · rename_i out ρ1 e1
    cases e
    exact ⟨hn, fr, F, ss, S, out, _, e1, fun ys F' H' s S' rr p hp => q _ F' (upd H' p (.lst ys)) s (S'.newC hp) ⟨p, rfl, S'.fresh hp ⟨ys, upd_same, rr⟩⟩⟩
  · cases e
theorem noStop0 {K : PySem.W.Frag} : NoStop K E0 := fun _ _ _ h => h.elim
section
variable {X : Cx} {k k2 n : Nat} {f : Addr} {fd : FuncData} {ps : List Str} {nm x : Str} {p pos pos' apos p2 : Pos} {o e : Expr} {es : List Expr} {M : MG} {as : List AE}
theorem pp_lstGC (Fn : GFn X.prog X.w X.K X.mg X.base k f fd ps (spG K ct.ad n k2 M)) (hr : Room (k + 3) X.A) (hgx : Gl X x) (hm : X.mg x = some (.ref f)) (hk : PySem.W.keepIn X.K (.ref f) = true) (hb : Binds X.K fd ps []) (hx : Passes (L2.CX X.prog X.w) X E0)
    (ha : PA X (e :: es) (TAr K ct W (evAs as))) (hg : Gl X nm) (hmg : X.mg nm = none) (hv : bootBuiltins nm = some (.type "list")) (hdx : (x == ("__debug__" : Str)) = false := by decide) (hnm : nm ≠ "__name__" := by decide) (hdb : (nm == ("__debug__" : Str)) = false := by decide)
    (he : starEach (e :: es) X.env = (false, eval e X.env) :: starEach es X.env := by rfl) (hpl : (backTo pos' (starEach es X.env)).any (·.1) = false := by rfl)
    (hst : starEach [.Call (.Name x p2) (e :: es) [] pos'] X.env = (false, eval (.Call (.Name x p2) (e :: es) [] pos') X.env) :: starEach [] X.env := by rfl) :
    PE X (.Call (.Name nm p) [.Call (.Name x p2) (e :: es) [] pos'] [] pos) (TP K ct W (evCall0 n (runG k2 M) as)) := (pe_listG (E := E0) (pgen_call Fn (hr.mono (by omega)) hgx hm hk hb .nil ha hdx he hpl) hx noStop0 hr hg hmg hv hnm hdb hst).imp fun σ H Q h => by
  obtain ⟨fr, F, ρ, S, h⟩ := h
  refine Tat.bnd h S fun F1 H1 ρ1 vs ar s1 S1 r1 h => ?_
  have h : Tat K ct (RV K ct.ad) W fr F1 ρ1 (noEr (callG n (runG k2 M) (ar ++ []))) σ Q := h
  rw [List.append_nil] at h
  rw [List.append_nil]
  exact spP_G (E' := E0) (Tat.call (W := fun _ _ _ _ => False) (Tat.noEr h) S1 r1 fun _ _ _ z => z)
end
end PL
namespace PL
open PySem PySem.Spec PyProof.Rows L2
theorem passG {X : Cx} : Passes (L2.CX X.prog X.w) X E0 := fun pins σ H s e s' _ h => by
  obtain ⟨a, B, H', cls, d, _, _, _, _, _, _, _, hW⟩ := h
  exact hW.elim
end PL
end
section
namespace SRT
open PySem PySem.Spec PyProof.Rows L2
/-! sorted(a list of tuples of ints), any number of them -/
def below (B : Int) (g : Heap) (u v : Value) : Bool := decide (TS.code B (TS.intsOf g u) < TS.code B (TS.intsOf g v))
theorem below_swo {B : Int} {g : Heap} : SrtO.Swo (below B g) := ⟨fun x y l => by
  have l := of_decide_eq_true l
  exact decide_eq_false (by omega), fun x y z l1 l2 => by
  have l1 := of_decide_eq_false l1
  have l2 := of_decide_eq_false l2
  exact decide_eq_false (by omega)⟩
section
variable {P : Program} {w : World} {A : Around} {s : Shared}
theorem can_sort {d : Nat} {B : Int} {us : List Value} {a : Addr} {g : Heap} (pos : 1 ≤ d) (two : 2 ≤ us.length) (ok : TS.TupsOk g d B us) (up : ∀ c o, g.get? c = some o → c ≠ a ∧ s.heap.get? c = some o) : SrtO.SortableO P w A s a us (below B g) := by
  intro g2 stay
  have kept : ∀ c o, g.get? c = some o → g2.get? c = some o := fun c o e => stay c o (up c o e).1 (up c o e).2
  have ok2 : TS.TupsOk g2 d B us := ok.keeps fun c o e _ => kept c o e
  obtain ⟨fs, k, hl, hi⟩ := TS.firsts_of pos us ok2
  refine ⟨_, fun Q E q => PySem.W.kat_kind (s := { s with heap := g2 }) (T := Value.type "int") k (by omega) (fun f m => ?_) rfl q, fun p q mp mq => ?_⟩
  · obtain ⟨n, t, e⟩ := hi f m
    subst e
    (exact PySem.W.Looks.of_pure rfl)
  · obtain ⟨ns, tp, lp, bp⟩ := ok p.1 mp
    obtain ⟨ms, tq, lq, bq⟩ := ok q.1 mq
    have want : SrtO.lt2 (below B g) p q = decide (TS.code B ns < TS.code B ms) := by
      show below B g p.1 q.1 = _
      unfold below
      rw [tp.ints, tq.ints]
    obtain ⟨c1, xs, e1, ⟨o1, ho1, _, n1, d1⟩, i1⟩ := tp
    obtain ⟨c2, zs, e2, ⟨o2, ho2, _, n2, d2⟩, i2⟩ := tq
    rw [e1, e2, want]
    refine PySem.W.kat_lt (s := { s with heap := g2 }) (kept _ _ ho1) d1 (kept _ _ ho2) d2 ?_
    have y1 := i1.length
    have y2 := i2.length
    rw [Array.length_toList] at y1 y2
    rw [show decide (xs.size < zs.size) = false from decide_eq_false (by omega)]
    exact TS.lex_ints 0 i1 i2 (by rw [lp, lq]) bp bq ⟨rfl, rfl⟩
end
section
variable {X : Cx}
def rSortL (K : PySem.W.Frag) (d : Nat) (B : Int) : List V → Hp → VK → Prop := fun vs H Q => ∃ (a : Addr) (xs : List V), vs = [V.ref a] ∧ SqL K H a xs ∧ (∀ x ∈ xs, ∃ ns, TupI K H x ns ∧ ns.length = d ∧ TS.Bd B ns) ∧
  (∀ (ys : List V) (p : Addr), ys.Perm xs → ys.Pairwise (fun x y => ∀ n m, TupI K H x n → TupI K H y m → TS.code B n ≤ TS.code B m) → H p = none → Q (.ref p) (upd H p (.lst ys)))
theorem cr_sortL {d : Nat} {B : Int} (pos : 1 ≤ d) : CallR X (.builtin "sorted") (rSortL X.K d B) := by
  intro pins s σ H vs us Q I rv0 hh
  obtain ⟨a, xs, ev, sq, each, q⟩ := hh
  subst ev
  obtain ⟨its, rv, hl, small⟩ := I.list sq
  rw [Vals.ref1 rv0]
  obtain ⟨e1, e2⟩ := bkV_refs rv fun x mx => by
    obtain ⟨_, tu, _⟩ := each x mx
    exact let ⟨t, e, _⟩ := tu; ⟨t, e⟩
  have ok : TS.TupsOk s.heap d B its := fun v mv => by
    obtain ⟨t, rfl⟩ := e2 v mv
    obtain ⟨ns, tu, ln, bd⟩ := each (V.ref t) (by rw [e1]; exact List.mem_map.mpr ⟨_, mv, rfl⟩)
    obtain ⟨t2, e, ht⟩ := tu
    cases e
    exact ⟨ns, tupI_raw I ht, ln, bd⟩
  refine SrtO.sorted_ord (below_swo (B := B) (g := s.heap)) hl.isList (by rw [← rv.length]; exact small) (fun two g1 a1 _ up => can_sort (s := { s with heap := g1 }) pos two ok up) fun out asc stb => ?_
  have perm := stb.perm
  obtain ⟨ep, at1⟩ := PyProof.Rows.sortedAll_at s.heap its out.toArray
  have refs : ∀ u ∈ out, ∃ c, u = Value.ref c := fun u m => e2 u (perm.mem_iff.mp m)
  have pv : (out.map bkV).Perm xs := e1 ▸ perm.map bkV
  refine ⟨.ref _, upd H (s.heap.objs.size + 1) (.lst (out.map bkV)), I.laid (t' := s.toks) (fun _ _ => PyProof.Rows.sortedAll_old) (Nat.le_succ _) ⟨by rw [pv.length_eq]; exact small, out, ep, bkV_vals refs, at1⟩, rfl, q _ _ pv ?_ (I.hok.fresh (Nat.le_succ _))⟩
  rw [List.pairwise_map]
  refine asc.imp fun {u v} le n m hn hm => ?_
  obtain ⟨t1, et1, ht1⟩ := hn
  obtain ⟨t2, et2, ht2⟩ := hm
  have y1 : TS.intsOf s.heap u = n := by rw [bkV_ref et1]; exact (tupI_raw I ht1).ints
  have y2 : TS.intsOf s.heap v = m := by rw [bkV_ref et2]; exact (tupI_raw I ht2).ints
  have le : ¬ _ < _ := of_decide_eq_false (show decide (TS.code B (TS.intsOf s.heap v) < TS.code B (TS.intsOf s.heap u)) = false from le)
  rw [← y1, ← y2]
  omega
end
end SRT
namespace PL
open PySem PySem.Spec PyProof.Rows L2
variable {K : PySem.W.Frag} {ad : Cl → Addr}
/-- .. of pairs -/
def gSrtL : List D → Option CC
  | [.lst xs] => match prs xs with
    | some ks => if ∀ k ∈ ks, (0 ≤ k.1 ∧ k.1 < 1000) ∧ 0 ≤ k.2 ∧ k.2 < 1000 then some (.lst ((srtP ks).map pD)) else none
    | none => none
  | _ => none
theorem ob_srtL : OBc K ad (SRT.rSortL K 2 1000) gSrtL := by
  intro F H vs ds z Q s r e q
  unfold gSrtL at e
  split at e
  · rename_i xs
    split at e
    · rename_i ks e1
      split at e
      · rename_i bnds
        cases e
        have e1 := prs_of e1
        subst e1
        obtain ⟨v, rfl, rv⟩ := one_i r
        cases rv with
        | @lst p us _ h1 h2 =>
          have bd : ∀ k ∈ ks, TS.Bd 1000 [k.1, k.2] := fun k m i hi => by
            have := bnds k m
            simp at hi
            omega
          refine ⟨p, us, rfl, SqL.of (s _ _ h1), fun x hx => ?_, fun ys l hp hs hl => ?_⟩
          · obtain ⟨d, hd, rx⟩ := h2.at_ x hx
            obtain ⟨k, m, rfl⟩ := List.mem_map.mp hd
            exact ⟨_, tupI_of s rx, rfl, bd k m⟩
          · obtain ⟨es, p1, r1⟩ := Rps.perm hp h2
            have e2 : es = (es.map unD).map pD := by
              rw [List.map_map]
              refine (List.map_id' es).symm.trans (List.map_congr_left fun d hd => ?_)
              obtain ⟨k, m, rfl⟩ := List.mem_map.mp (p1.mem_iff.mp hd)
              rfl
            have p2 : (es.map unD).Perm ks := by
              have := p1.map unD
              rw [List.map_map] at this
              have e3 : ks.map (unD ∘ pD) = ks := (List.map_congr_left fun k _ => rfl).trans (List.map_id' ks)
              rwa [e3] at this
            have asc : (es.map unD).Pairwise PLe := by
              rw [List.pairwise_map]
              refine (Rps.pw (R := fun d e => d ∈ ks.map pD → e ∈ ks.map pD → PLe (unD d) (unD e)) (fun x y d e c rx ry hd he => ?_) r1 hs).imp_of_mem fun {a b} ha hb g => g (p1.mem_iff.mp ha) (p1.mem_iff.mp hb)
              obtain ⟨k, m, rfl⟩ := List.mem_map.mp hd
              obtain ⟨k', m', rfl⟩ := List.mem_map.mp he
              have := c _ _ (tupI_of s rx) (tupI_of s ry)
              exact code_lex (bd k m) (bd k' m') this
            have e4 : es.map unD = srtP ks := asc_uniq (p2.trans (srtP_perm ks).symm) asc (srtP_asc ks)
            rw [e2, e4] at r1
            exact q l _ hl fun _ => ⟨ys, upd_same, r1⟩
      · cases e
    · cases e
  · cases e
end PL
end
namespace DP
open PySem PySem.Spec PyProof.Rows L2 PL
def topS (i : Nat) : Stmt := PySem.Challenge.pw_dampspells_k02_lacquer_numbers.main.body.getD i (.Pass ⟨0, 0, 0, 0⟩)
abbrev s_f_ceil_div : Stmt := topS 6
abbrev N_f_ceil_div : List Str := ["x", "y"]
theorem sc_f_ceil_div : FnScope ["x", "y"] ["x", "y"] (defScope s_f_ceil_div) := ⟨rfl, rfl, rfl, by decide +kernel, rfl, by decide +kernel, by decide +kernel⟩
abbrev s_Lacquer_init : Stmt := inClass (topS 8) 1
abbrev N_Lacquer_init : List Str := ["self", "a", "b"]
theorem sc_Lacquer_init : FnScope ["self", "a", "b"] ["self", "a", "b"] (defScope s_Lacquer_init) := ⟨rfl, rfl, rfl, by decide +kernel, rfl, by decide +kernel, by decide +kernel⟩
abbrev s_Lacquer_slack : Stmt := inClass (topS 8) 2
abbrev N_Lacquer_slack : List Str := ["self"]
theorem sc_Lacquer_slack : FnScope ["self"] ["self"] (defScope s_Lacquer_slack) := ⟨rfl, rfl, rfl, by decide +kernel, rfl, by decide +kernel, by decide +kernel⟩
abbrev s_Lacquer_eq : Stmt := inClass (topS 8) 3
abbrev N_Lacquer_eq : List Str := ["self", "other"]
theorem sc_Lacquer_eq : FnScope ["self", "other"] ["self", "other"] (defScope s_Lacquer_eq) := ⟨rfl, rfl, rfl, by decide +kernel, rfl, by decide +kernel, by decide +kernel⟩
abbrev s_Lacquer_contains : Stmt := inClass (topS 8) 4
abbrev N_Lacquer_contains : List Str := ["self", "step"]
theorem sc_Lacquer_contains : FnScope ["self", "step"] ["self", "step"] (defScope s_Lacquer_contains) := ⟨rfl, rfl, rfl, by decide +kernel, rfl, by decide +kernel, by decide +kernel⟩
abbrev s_Lacquer_spans : Stmt := inClass (topS 8) 5
abbrev N_Lacquer_spans : List Str := ["self", "w"]
theorem sc_Lacquer_spans : FnScope ["self", "w"] ["self", "w"] (defScope s_Lacquer_spans) := ⟨rfl, rfl, rfl, by decide +kernel, rfl, by decide +kernel, by decide +kernel⟩
abbrev s_Lacquer_turns : Stmt := inClass (topS 8) 6
abbrev N_Lacquer_turns : List Str := ["self", "g"]
theorem sc_Lacquer_turns : FnScope ["self", "g"] ["self", "g"] (defScope s_Lacquer_turns) := ⟨rfl, rfl, rfl, by decide +kernel, rfl, by decide +kernel, by decide +kernel⟩
abbrev s_Lacquer_lead : Stmt := inClass (topS 8) 7
abbrev N_Lacquer_lead : List Str := ["self", "w"]
theorem sc_Lacquer_lead : FnScope ["self", "w"] ["self", "w"] (defScope s_Lacquer_lead) := ⟨rfl, rfl, rfl, by decide +kernel, rfl, by decide +kernel, by decide +kernel⟩
abbrev s_f_lacquers : Stmt := topS 9
abbrev N_f_lacquers : List Str := ["most", "a", "b"]
theorem sc_f_lacquers : GScope ["most", "a", "b"] ["most"] (defScope s_f_lacquers) := ⟨rfl, rfl, rfl, by decide +kernel, rfl, by decide +kernel, by decide +kernel⟩
abbrev s_l_cell : Stmt := topS 11
abbrev N_l_cell : List Str := ["script", "k"]
theorem sc_l_cell : FnScope ["script", "k"] ["script", "k"] (defScope s_l_cell) := ⟨rfl, rfl, rfl, by decide +kernel, rfl, by decide +kernel, by decide +kernel⟩
abbrev s_l_pool : Stmt := topS 12
abbrev N_l_pool : List Str := ["cell"]
theorem sc_l_pool : FnScope ["cell"] ["cell"] (defScope s_l_pool) := ⟨rfl, rfl, rfl, by decide +kernel, rfl, by decide +kernel, by decide +kernel⟩
abbrev s_l_take : Stmt := topS 13
abbrev N_l_take : List Str := ["pool", "size", "digit", "x"]
theorem sc_l_take : FnScope ["pool", "size", "digit", "x"] ["pool", "size"] (defScope s_l_take) := ⟨rfl, rfl, rfl, by decide +kernel, rfl, by decide +kernel, by decide +kernel⟩
abbrev s_l_int : Stmt := topS 14
abbrev N_l_int : List Str := ["x"]
theorem sc_l_int : FnScope ["x"] ["x"] (defScope s_l_int) := ⟨rfl, rfl, rfl, by decide +kernel, rfl, by decide +kernel, by decide +kernel⟩
abbrev s_l_ab : Stmt := topS 15
abbrev N_l_ab : List Str := ["pool", "most", "a"]
theorem sc_l_ab : FnScope ["pool", "most", "a"] ["pool", "most"] (defScope s_l_ab) := ⟨rfl, rfl, rfl, by decide +kernel, rfl, by decide +kernel, by decide +kernel⟩
abbrev s_l_far : Stmt := topS 16
abbrev N_l_far : List Str := ["pool", "number", "k"]
theorem sc_l_far : FnScope ["pool", "number", "k"] ["pool"] (defScope s_l_far) := ⟨rfl, rfl, rfl, by decide +kernel, rfl, by decide +kernel, by decide +kernel⟩
abbrev s_l_any : Stmt := topS 17
abbrev N_l_any : List Str := ["pool"]
theorem sc_l_any : FnScope ["pool"] ["pool"] (defScope s_l_any) := ⟨rfl, rfl, rfl, by decide +kernel, rfl, by decide +kernel, by decide +kernel⟩
abbrev s_l_made : Stmt := topS 18
abbrev N_l_made : List Str := ["a", "b", "lacquer"]
theorem sc_l_made : FnScope ["a", "b", "lacquer"] ["a", "b"] (defScope s_l_made) := ⟨rfl, rfl, rfl, by decide +kernel, rfl, by decide +kernel, by decide +kernel⟩
abbrev s_l_refuses : Stmt := topS 19
abbrev N_l_refuses : List Str := ["a", "b", "refused", "kin", "e"]
theorem sc_l_refuses : FnScope ["a", "b", "refused", "kin", "e"] ["a", "b"] (defScope s_l_refuses) := ⟨rfl, rfl, rfl, by decide +kernel, rfl, by decide +kernel, by decide +kernel⟩
abbrev s_l_bars : Stmt := topS 20
abbrev N_l_bars : List Str := ["lacquer", "way", "number", "refused", "kin", "e"]
theorem sc_l_bars : FnScope ["lacquer", "way", "number", "refused", "kin", "e"] ["lacquer", "way", "number"] (defScope s_l_bars) := ⟨rfl, rfl, rfl, by decide +kernel, rfl, by decide +kernel, by decide +kernel⟩
abbrev s_l_least : Stmt := topS 21
abbrev N_l_least : List Str := ["count", "size", "reach"]
theorem sc_l_least : FnScope ["count", "size", "reach"] ["count", "size", "reach"] (defScope s_l_least) := ⟨rfl, rfl, rfl, by decide +kernel, rfl, by decide +kernel, by decide +kernel⟩
abbrev s_l_steps : Stmt := topS 22
abbrev N_l_steps : List Str := ["lacquer", "a", "b", "far", "step"]
theorem sc_l_steps : FnScope ["lacquer", "a", "b", "far", "step"] ["lacquer", "a", "b", "far"] (defScope s_l_steps) := ⟨rfl, rfl, rfl, by decide +kernel, rfl, by decide +kernel, by decide +kernel⟩
abbrev s_l_counts : Stmt := topS 23
abbrev N_l_counts : List Str := ["lacquer", "a", "b", "w", "g", "spans", "lead"]
theorem sc_l_counts : FnScope ["lacquer", "a", "b", "w", "g", "spans", "lead"] ["lacquer", "a", "b", "w", "g"] (defScope s_l_counts) := ⟨rfl, rfl, rfl, by decide +kernel, rfl, by decide +kernel, by decide +kernel⟩
abbrev s_l_numbers : Stmt := topS 24
abbrev N_l_numbers : List Str := ["lacquer", "a", "b"]
theorem sc_l_numbers : FnScope ["lacquer", "a", "b"] ["lacquer", "a", "b"] (defScope s_l_numbers) := ⟨rfl, rfl, rfl, by decide +kernel, rfl, by decide +kernel, by decide +kernel⟩
abbrev s_l_equals : Stmt := topS 25
abbrev N_l_equals : List Str := ["one", "other", "due", "actual"]
theorem sc_l_equals : FnScope ["one", "other", "due", "actual"] ["one", "other", "due"] (defScope s_l_equals) := ⟨rfl, rfl, rfl, by decide +kernel, rfl, by decide +kernel, by decide +kernel⟩
abbrev s_l_whole_one : Stmt := topS 26
abbrev N_l_whole_one : List Str := ["lacquer", "pair", "w", "g", "low", "far", "a", "b"]
theorem sc_l_whole_one : FnScope ["lacquer", "pair", "w", "g", "low", "far", "a", "b"] ["lacquer", "pair", "w", "g", "low", "far"] (defScope s_l_whole_one) := ⟨rfl, rfl, rfl, by decide +kernel, rfl, by decide +kernel, by decide +kernel⟩
abbrev s_l_yields : Stmt := topS 27
abbrev N_l_yields : List Str := ["most", "due", "b", "a", "rows", "k"]
theorem sc_l_yields : FnScope ["most", "due", "b", "a", "rows", "k"] ["most"] (defScope s_l_yields) := ⟨rfl, rfl, rfl, by decide +kernel, rfl, by decide +kernel, by decide +kernel⟩
abbrev s_l_law : Stmt := topS 28
abbrev N_l_law : List Str := ["script", "pool", "pair", "first", "other", "w", "g", "low", "far", "most", "second", "lacquer"]
theorem sc_l_law : FnScope ["script", "pool", "pair", "first", "other", "w", "g", "low", "far", "most", "second", "lacquer"] ["script"] (defScope s_l_law) := ⟨rfl, rfl, rfl, by decide +kernel, rfl, by decide +kernel, by decide +kernel⟩
structure S_DampError (K : PySem.W.Frag) (mg : Str → Option Value) (C : Addr) : Prop where
  mg : (mg "DampError" = some (.ref C))
  x : (PySem.W.excIn K C [.type "ValueError", .type "Exception", .type "BaseException", .type "object"] "ValueError.__new__" = true)
  kp : (PySem.W.keepIn K (.ref C) = true)
  b : (PySem.W.subIn K (.ref C) (.type "BaseException") = some true)
  t : (PySem.W.typeIn K (.ref C) = some (.type "type"))
  i : (PySem.W.isClsIn K C = true)
  s : (PySem.W.subIn K (.ref C) (.ref C) = some true)
  hg : (PySem.W.findIn K (.ref C) "__getattribute__" = some (some (.builtin "BaseException.__getattribute__")))
  hk : (PySem.W.findIn K (.ref C) "__getattr__" = some none)
  hd : (PySem.W.hasDictIn K C = true)
  ha : (PySem.W.findIn K (.ref C) "__class__" = some (some (.builtin "object.__class__")))
  hn : (PySem.W.specialIn K (.builtin "object.__class__") "__get__" = some (some (.builtin "getset_descriptor.__get__")))
  ht : (PySem.W.takesIn K (.builtin "object.__class__") = some true)
  hm : (PySem.W.mroIn K C (.type "object") = some true)
theorem S_DampError.ex {K : PySem.W.Frag} {mg : Str → Option Value} {C : Addr} (T : S_DampError K mg C) : ExcC K C := ⟨T.hg, T.hk, T.b, T.hd, T.ha, T.hn, T.ht, T.hm⟩
theorem S_DampError.te {K : PySem.W.Frag} {mg : Str → Option Value} {C : Addr} (T : S_DampError K mg C) : PySem.W.exmOne K (.ref C) (.ref C) = some true := PySem.W.exm_ref T.b T.hd T.t T.s
structure S_BadLacquer (K : PySem.W.Frag) (mg : Str → Option Value) (C : Addr) : Prop where
  mg : (mg "BadLacquer" = some (.ref C))
  x : (PySem.W.excIn K C [.type "ValueError", .type "Exception", .type "BaseException", .type "object"] "ValueError.__new__" = true)
  kp : (PySem.W.keepIn K (.ref C) = true)
  b : (PySem.W.subIn K (.ref C) (.type "BaseException") = some true)
  t : (PySem.W.typeIn K (.ref C) = some (.type "type"))
  i : (PySem.W.isClsIn K C = true)
  s : (PySem.W.subIn K (.ref C) (.ref C) = some true)
  hg : (PySem.W.findIn K (.ref C) "__getattribute__" = some (some (.builtin "BaseException.__getattribute__")))
  hk : (PySem.W.findIn K (.ref C) "__getattr__" = some none)
  hd : (PySem.W.hasDictIn K C = true)
  ha : (PySem.W.findIn K (.ref C) "__class__" = some (some (.builtin "object.__class__")))
  hn : (PySem.W.specialIn K (.builtin "object.__class__") "__get__" = some (some (.builtin "getset_descriptor.__get__")))
  ht : (PySem.W.takesIn K (.builtin "object.__class__") = some true)
  hm : (PySem.W.mroIn K C (.type "object") = some true)
theorem S_BadLacquer.ex {K : PySem.W.Frag} {mg : Str → Option Value} {C : Addr} (T : S_BadLacquer K mg C) : ExcC K C := ⟨T.hg, T.hk, T.b, T.hd, T.ha, T.hn, T.ht, T.hm⟩
theorem S_BadLacquer.te {K : PySem.W.Frag} {mg : Str → Option Value} {C : Addr} (T : S_BadLacquer K mg C) : PySem.W.exmOne K (.ref C) (.ref C) = some true := PySem.W.exm_ref T.b T.hd T.t T.s
structure S_BadNumber (K : PySem.W.Frag) (mg : Str → Option Value) (C : Addr) : Prop where
  mg : (mg "BadNumber" = some (.ref C))
  x : (PySem.W.excIn K C [.type "ValueError", .type "Exception", .type "BaseException", .type "object"] "ValueError.__new__" = true)
  kp : (PySem.W.keepIn K (.ref C) = true)
  b : (PySem.W.subIn K (.ref C) (.type "BaseException") = some true)
  t : (PySem.W.typeIn K (.ref C) = some (.type "type"))
  i : (PySem.W.isClsIn K C = true)
  s : (PySem.W.subIn K (.ref C) (.ref C) = some true)
  hg : (PySem.W.findIn K (.ref C) "__getattribute__" = some (some (.builtin "BaseException.__getattribute__")))
  hk : (PySem.W.findIn K (.ref C) "__getattr__" = some none)
  hd : (PySem.W.hasDictIn K C = true)
  ha : (PySem.W.findIn K (.ref C) "__class__" = some (some (.builtin "object.__class__")))
  hn : (PySem.W.specialIn K (.builtin "object.__class__") "__get__" = some (some (.builtin "getset_descriptor.__get__")))
  ht : (PySem.W.takesIn K (.builtin "object.__class__") = some true)
  hm : (PySem.W.mroIn K C (.type "object") = some true)
theorem S_BadNumber.ex {K : PySem.W.Frag} {mg : Str → Option Value} {C : Addr} (T : S_BadNumber K mg C) : ExcC K C := ⟨T.hg, T.hk, T.b, T.hd, T.ha, T.hn, T.ht, T.hm⟩
theorem S_BadNumber.te {K : PySem.W.Frag} {mg : Str → Option Value} {C : Addr} (T : S_BadNumber K mg C) : PySem.W.exmOne K (.ref C) (.ref C) = some true := PySem.W.exm_ref T.b T.hd T.t T.s
structure S_TooLarge (K : PySem.W.Frag) (mg : Str → Option Value) (C : Addr) : Prop where
  mg : (mg "TooLarge" = some (.ref C))
  x : (PySem.W.excIn K C [.type "ValueError", .type "Exception", .type "BaseException", .type "object"] "ValueError.__new__" = true)
  kp : (PySem.W.keepIn K (.ref C) = true)
  b : (PySem.W.subIn K (.ref C) (.type "BaseException") = some true)
  t : (PySem.W.typeIn K (.ref C) = some (.type "type"))
  i : (PySem.W.isClsIn K C = true)
  s : (PySem.W.subIn K (.ref C) (.ref C) = some true)
  hg : (PySem.W.findIn K (.ref C) "__getattribute__" = some (some (.builtin "BaseException.__getattribute__")))
  hk : (PySem.W.findIn K (.ref C) "__getattr__" = some none)
  hd : (PySem.W.hasDictIn K C = true)
  ha : (PySem.W.findIn K (.ref C) "__class__" = some (some (.builtin "object.__class__")))
  hn : (PySem.W.specialIn K (.builtin "object.__class__") "__get__" = some (some (.builtin "getset_descriptor.__get__")))
  ht : (PySem.W.takesIn K (.builtin "object.__class__") = some true)
  hm : (PySem.W.mroIn K C (.type "object") = some true)
theorem S_TooLarge.ex {K : PySem.W.Frag} {mg : Str → Option Value} {C : Addr} (T : S_TooLarge K mg C) : ExcC K C := ⟨T.hg, T.hk, T.b, T.hd, T.ha, T.hn, T.ht, T.hm⟩
theorem S_TooLarge.te {K : PySem.W.Frag} {mg : Str → Option Value} {C : Addr} (T : S_TooLarge K mg C) : PySem.W.exmOne K (.ref C) (.ref C) = some true := PySem.W.exm_ref T.b T.hd T.t T.s
structure S_Lacquer (K : PySem.W.Frag) (mg : Str → Option Value) (C : Addr) : Prop where
  pg : (PySem.W.plainGet K C Str.empty = true)
  hd : (PySem.W.hasDictIn K C = true)
  po : (PySem.W.plainOver K C = true)
  sa : (PySem.W.findIn K (.ref C) "__setattr__" = some (some (.builtin "object.__setattr__")))
  mg : (mg "Lacquer" = some (.ref C))
  sf : (PySem.W.selfFirst K C = true)
  nf : (PySem.W.notFirst K C (.ref C) = true)
  ha : (PySem.W.findIn K (.ref C) "__class__" = some (some (.builtin "object.__class__")))
  hn : (PySem.W.specialIn K (.builtin "object.__class__") "__get__" = some (some (.builtin "getset_descriptor.__get__")))
  ht : (PySem.W.takesIn K (.builtin "object.__class__") = some true)
  hm : (PySem.W.mroIn K C (.type "object") = some true)
  kp : (PySem.W.keepIn K (.ref C) = true)
  mkk : (PySem.W.makesIn K C = true)
  v_MOST : (∃ u, PySem.W.findCls K (.ref C) (.type "type") "MOST" = some (.val u) ∧ RelV (.int 12) u)
  rd : (PySem.W.readsIn K C (.type "type") = true)
  ga : (PySem.W.specialIn K (.ref C) "__getattribute__" = some (some (.builtin "type.__getattribute__")))
  n_a : (PySem.W.findIn K (.ref C) "a" = some none)
  n_b : (PySem.W.findIn K (.ref C) "b" = some none)
theorem S_Lacquer.cl {K : PySem.W.Frag} {mg : Str → Option Value} {C : Addr} (T : S_Lacquer K mg C) : Cls K C := ⟨T.pg, T.hd, T.po, T.sa⟩
theorem S_Lacquer.cr {K : PySem.W.Frag} {mg : Str → Option Value} {C : Addr} (T : S_Lacquer K mg C) : ClX.CRead K C (.type "type") := ⟨T.rd, T.ga⟩
theorem S_Lacquer.ct {K : PySem.W.Frag} {mg : Str → Option Value} {C : Addr} (T : S_Lacquer K mg C) : ClsT K C := ⟨T.cl, T.ha, T.hn, T.ht, T.hm⟩
def B_f_ceil_div : M Fl :=
    (evRet (ev1 dNeg (ev2 dDiv (ev1 dNeg (evV 0)) (evV 1))))
def G_f_ceil_div : Fn := run0 0 B_f_ceil_div
def B_Lacquer_init : M Fl :=
    (evSeq (evIf (tNo (ch3 dLe dLt dLe (vD (.int 1)) (evV 1) (evV 2) (vD (.int 12))))
    (evRaise1 .BadLacquer (evJn [(vD (.str "a lacquer has no numbers ")), (ev1 dFmt (evV 1)), (vD (.str " and ")), (ev1 dFmt (evV 2))]))
    evNx)
    (evSeq (evFldS .Lacquer 0 "a" (evV 1))
    (evFldS .Lacquer 0 "b" (evV 2))))
def G_Lacquer_init : Fn := runB 0 B_Lacquer_init
def B_Lacquer_slack : M Fl :=
    (evRet (ev2 dSub (ev1 (dFld .Lacquer 1) (evV 0)) (ev1 (dFld .Lacquer 0) (evV 0))))
def G_Lacquer_slack : Fn := run0 0 B_Lacquer_slack
def B_Lacquer_eq : M Fl :=
    (evRet (vAn (evIsi [(.o .Lacquer, true), (.b "NoneType", false)] (evV 1)) (vAn (ev2 dEq (ev1 (dFld .Lacquer 0) (evV 0)) (ev1 (dFld .Lacquer 0) (evV 1))) (ev2 dEq (ev1 (dFld .Lacquer 1) (evV 0)) (ev1 (dFld .Lacquer 1) (evV 1))))))
def G_Lacquer_eq : Fn := run0 0 B_Lacquer_eq
def B_Lacquer_contains : M Fl :=
    (evRet (ch2 dLe dLe (ev1 (dFld .Lacquer 0) (evV 0)) (evV 1) (ev1 (dFld .Lacquer 1) (evV 0))))
def G_Lacquer_contains : Fn := run0 0 B_Lacquer_contains
def B_Lacquer_spans : M Fl :=
    (evSeq (evIf (tst (ev2 dLt (evV 1) (vD (.int 0))))
    (evRaise .BadNumber)
    evNx)
    (evRet (evCall0 2 G_f_ceil_div [.e (evV 1), .e (evMeth 1 G_Lacquer_slack .Lacquer (evV 0) [])])))
def G_Lacquer_spans : Fn := runB 0 B_Lacquer_spans
def B_Lacquer_turns : M Fl :=
    (evSeq (evIf (tst (ev2 dLt (evV 1) (vD (.int 0))))
    (evRaise .BadNumber)
    evNx)
    (evRet (evCall0 2 G_f_ceil_div [.e (evV 1), .e (ev1 (dFld .Lacquer 0) (evV 0))])))
def G_Lacquer_turns : Fn := runB 0 B_Lacquer_turns
def B_Lacquer_lead : M Fl :=
    (evSeq (evIf (tst (ev2 dLt (evV 1) (vD (.int 1))))
    (evRaise .BadNumber)
    evNx)
    (evRet (ev2 dMul (ev2 dSub (evMethS 2 G_Lacquer_spans .Lacquer (evV 0) [.e (evV 1)]) (vD (.int 1))) (ev1 (dFld .Lacquer 0) (evV 0)))))
def G_Lacquer_lead : Fn := runB 0 B_Lacquer_lead
def B_f_lacquers : MG :=
    (gSeq (gFor (itR2 (vD (.int 1)) (evV 0)) (.n 1)
    (gSeq (gFor (itR2 (ev2 dAdd (evV 1) (vD (.int 1))) (ev2 dAdd (evV 0) (vD (.int 1)))) (.n 2)
    (gSeq (gY (evMk0 3 G_Lacquer_init .Lacquer [.e (evV 1), .e (evV 2)]))
    gNx))
    gNx))
    gNx)
def G_f_lacquers : Fn := runG 2 B_f_lacquers
def B_l_cell : M Fl :=
    (evSeq (evIf (tst (ev2 dLt (evV 1) (evB gLen [.e (evV 0)])))
    (evRet (ev2 dIx (evV 0) (evV 1)))
    evNx)
    (evRet (ev2 dAdd (ev2 dMul (vD (.int 977)) (evV 1)) (vD (.int 31)))))
def G_l_cell : Fn := run0 0 B_l_cell
def B_l_pool : M Fl :=
    (evSeq (evIf (tst (ev2 dGe (evV 0) (ev2 dPow (vD (.int 10)) (vD (.int 18)))))
    (evRet (evLst [.e (ev2 dSub (evV 0) (ev2 dPow (vD (.int 10)) (vD (.int 18)))), .e (ev2 dMod (evB gInt [.e (evV 0)]) (vD (.int 1000000007))), .e (vD (.int 0))]))
    evNx)
    (evSeq (evIf (tst (ev2 dLt (evV 0) (vD (.int 0))))
    (evRet (evLst [.e (vD (.int 0)), .e (ev2 dMod (evB gInt [.e (ev2 dSub (vD (.int 1)) (ev2 dMul (vD (.int 2)) (evV 0)))]) (vD (.int 1000000007))), .e (vD (.int 0))]))
    evNx)
    (evRet (evLst [.e (vD (.int 0)), .e (ev2 dMod (evB gInt [.e (ev2 dMul (vD (.int 2)) (evV 0))]) (vD (.int 1000000007))), .e (vD (.int 0))]))))
def G_l_pool : Fn := run0 0 B_l_pool
def B_l_take : M Fl :=
    (evSeq (evSetI 0 (vD (.int 2)) (ev2 dAdd (look 0 Rv.lfree (ev2 dIx (evV 0) (vD (.int 2)))) (vD (.int 1))))
    (evSeq (evIf (tst (ev2 dGt (look 0 Rv.lfree (ev2 dIx (evV 0) (vD (.int 0)))) (vD (.int 1))))
    (evSeq (evAsg 2 (ev2 dMod (evB gInt [.e (look 0 Rv.lfree (ev2 dIx (evV 0) (vD (.int 0))))]) (evV 1)))
    (evSeq (evSetI 0 (vD (.int 0)) (ev2 dDiv (look 0 Rv.lfree (ev2 dIx (evV 0) (vD (.int 0)))) (evV 1)))
    (evRet (evV 2))))
    evNx)
    (evSeq (evAsg 3 (ev2 dMod (evB gInt [.e (ev2 dAdd (ev2 dAdd (look 0 Rv.lfree (ev2 dIx (evV 0) (vD (.int 1)))) (ev2 dMul (vD (.int 48271)) (look 0 Rv.lfree (ev2 dIx (evV 0) (vD (.int 2)))))) (vD (.int 12345)))]) (vD (.int 2147483647))))
    (evSeq (evAsg 3 (ev2 dMod (evB gInt [.e (ev2 dAdd (ev2 dAdd (ev2 dMul (evV 3) (evV 3)) (ev2 dMul (vD (.int 16807)) (look 0 Rv.lfree (ev2 dIx (evV 0) (vD (.int 2)))))) (vD (.int 7)))]) (vD (.int 2147483629))))
    (evSeq (evAsg 3 (ev2 dMod (evB gInt [.e (ev2 dAdd (ev2 dAdd (ev2 dMul (evV 3) (evV 3)) (ev2 dMul (vD (.int 69621)) (look 0 Rv.lfree (ev2 dIx (evV 0) (vD (.int 2)))))) (vD (.int 3)))]) (vD (.int 2147483587))))
    (evRet (ev2 dMod (evB gInt [.e (ev2 dDiv (evV 3) (vD (.int 7)))]) (evV 1))))))))
def G_l_take : Fn := run0 2 B_l_take
def B_l_int : M Fl :=
    (evRet (vAn (evIsi [(.b "int", true)] (evV 0)) (vNo (evIsi [(.b "int", false)] (evV 0)))))
def G_l_int : Fn := run0 0 B_l_int
def B_l_ab : M Fl :=
    (evSeq (evAsg 2 (ev2 dAdd (vD (.int 1)) (evCall0 2 G_l_take [.c 0, .e (ev2 dSub (evV 1) (vD (.int 1)))])))
    (evRet (evTup [.e (evV 2), .e (ev2 dAdd (ev2 dAdd (evV 2) (vD (.int 1))) (evCall0 2 G_l_take [.c 0, .e (ev2 dSub (evV 1) (evV 2))]))])))
def G_l_ab : Fn := run0 1 B_l_ab
def B_l_far : M Fl :=
    (evSeq (evAsg 1 (vD (.int 0)))
    (evSeq (evFor (itR1 (vD (.int 4))) (.n 2)
    (evAsg 1 (ev2 dAdd (ev2 dMul (evV 1) (vD (.int 100000))) (evCall0 2 G_l_take [.c 0, .e (vD (.int 100000))]))))
    (evSeq (evIf (tst (ev2 dEq (evCall0 2 G_l_take [.c 0, .e (vD (.int 2))]) (vD (.int 1))))
    (evRet (ev1 dNeg (evV 1)))
    evNx)
    (evRet (evV 1)))))
def G_l_far : Fn := run0 2 B_l_far
def B_l_any : M Fl :=
    (evSeq (evIf (tst (ev2 dEq (evCall0 2 G_l_take [.c 0, .e (vD (.int 8))]) (vD (.int 3))))
    (evRet (evCall0 1 G_l_far [.c 0]))
    evNx)
    (evRet (ev2 dSub (evCall0 2 G_l_take [.c 0, .e (vD (.int 18))]) (vD (.int 2)))))
def G_l_any : Fn := run0 0 B_l_any
def B_l_made : M Fl :=
    (evSeq (evAsg 2 (vD .non))
    (evSeq (evTryO (evAsg 2 (evMk 3 G_Lacquer_init .Lacquer [.e (evV 0), .e (evV 1)])) [(.DampError, false), (.BadLacquer, true), (.BadNumber, false), (.TooLarge, false)]
    (evAsg 2 (vD .non)))
    (evRet (evV 2))))
def G_l_made : Fn := run0 1 B_l_made
def B_l_refuses : M Fl :=
    (evSeq (evAsg 2 (vD (.bl false)))
    (evSeq (evAsg 3 (vD (.bl false)))
    (evSeq (evTryA 4 (evEx (evMk 3 G_Lacquer_init .Lacquer [.e (evV 0), .e (evV 1)])) [(.DampError, false), (.BadLacquer, true), (.BadNumber, false), (.TooLarge, false)]
    (evSeq (evAsg 2 (vD (.bl true)))
    (evSeq (evAsg 3 (vAn (evIsE 4 [(.o .BadLacquer, true)]) (evIsE 4 [(.o .BadLacquer, true)])))
    (evAsg 3 (vAn (evV 3) (vAn (vNo (evIsE 4 [(.o .BadLacquer, false)])) (vNo (evIsE 4 [(.o .BadLacquer, false)]))))))))
    (evRet (vAn (evV 2) (evV 3))))))
def G_l_refuses : Fn := run0 3 B_l_refuses
def B_l_bars : M Fl :=
    (evSeq (evAsg 3 (vD (.bl false)))
    (evSeq (evAsg 4 (vD (.bl false)))
    (evSeq (evTryA 5 (evIf (tst (ev2 dEq (evV 1) (vD (.int 0))))
    (evEx (evMethS 2 G_Lacquer_spans .Lacquer (evV 0) [.e (evV 2)]))
    (evIf (tst (ev2 dEq (evV 1) (vD (.int 1))))
    (evEx (evMethS 2 G_Lacquer_turns .Lacquer (evV 0) [.e (evV 2)]))
    (evEx (evMethS 2 G_Lacquer_lead .Lacquer (evV 0) [.e (evV 2)])))) [(.DampError, false), (.BadLacquer, false), (.BadNumber, true), (.TooLarge, false)]
    (evSeq (evAsg 3 (vD (.bl true)))
    (evSeq (evAsg 4 (vAn (evIsE 5 [(.o .BadNumber, true)]) (evIsE 5 [(.o .BadNumber, true)])))
    (evAsg 4 (vAn (evV 4) (vAn (vNo (evIsE 5 [(.o .BadNumber, false)])) (vNo (evIsE 5 [(.o .BadNumber, false)]))))))))
    (evRet (vAn (evV 3) (evV 4))))))
def G_l_bars : Fn := run0 3 B_l_bars
def B_l_least : M Fl :=
    (evRet (vAn (evCall0 1 G_l_int [.e (evV 0)]) (vAn (ev2 dGe (ev2 dMul (evV 0) (evV 1)) (evV 2)) (ev2 dLt (ev2 dMul (ev2 dSub (evV 0) (vD (.int 1))) (evV 1)) (evV 2)))))
def G_l_least : Fn := run0 0 B_l_least
def B_l_steps : M Fl :=
    (evSeq (evFor (itR2 (ev1 dNeg (vD (.int 1))) (vD (.int 15))) (.n 4)
    (evIf (tst (ev2 dNe (evOwnIn 2 G_Lacquer_contains .Lacquer (evV 4) (evV 0)) (vAn (ev2 dLe (evV 1) (evV 4)) (ev2 dLe (evV 4) (evV 2)))))
    (evRet (vD (.bl false)))
    evNx))
    (evRet (ev2 dEq (evOwnIn 2 G_Lacquer_contains .Lacquer (evV 3) (evV 0)) (vAn (ev2 dLe (evV 1) (evV 3)) (ev2 dLe (evV 3) (evV 2))))))
def G_l_steps : Fn := run0 1 B_l_steps
def B_l_counts : M Fl :=
    (evSeq (evIf (tOo (tNo (tst (evCall0 3 G_l_least [.e (evMeth 2 G_Lacquer_spans .Lacquer (evV 0) [.e (evV 3)]), .e (ev2 dSub (evV 2) (evV 1)), .e (evV 3)]))) (tNo (tst (evCall0 3 G_l_least [.e (evMeth 2 G_Lacquer_turns .Lacquer (evV 0) [.e (evV 4)]), .e (evV 1), .e (evV 4)]))))
    (evRet (vD (.bl false)))
    evNx)
    (evSeq (evIf (tOo (tNo (tst (evCall0 3 G_l_least [.e (evMeth 2 G_Lacquer_spans .Lacquer (evV 0) [.e (vD (.int 0))]), .e (ev2 dSub (evV 2) (evV 1)), .e (vD (.int 0))]))) (tNo (tst (evCall0 3 G_l_least [.e (evMeth 2 G_Lacquer_turns .Lacquer (evV 0) [.e (vD (.int 0))]), .e (evV 1), .e (vD (.int 0))]))))
    (evRet (vD (.bl false)))
    evNx)
    (evSeq (evAsg 5 (evMeth 2 G_Lacquer_spans .Lacquer (evV 0) [.e (ev2 dAdd (evV 3) (vD (.int 1)))]))
    (evSeq (evIf (tNo (tst (evCall0 3 G_l_least [.e (evV 5), .e (ev2 dSub (evV 2) (evV 1)), .e (ev2 dAdd (evV 3) (vD (.int 1)))])))
    (evRet (vD (.bl false)))
    evNx)
    (evSeq (evAsg 6 (evMeth 2 G_Lacquer_lead .Lacquer (evV 0) [.e (ev2 dAdd (evV 3) (vD (.int 1)))]))
    (evRet (vAn (evCall0 1 G_l_int [.e (evV 6)]) (ev2 dEq (evV 6) (ev2 dMul (ev2 dSub (evV 5) (vD (.int 1))) (evV 1))))))))))
def G_l_counts : Fn := run0 2 B_l_counts
def B_l_numbers : M Fl :=
    (evSeq (evIf (tOo (tNo (tst (evIsi [(.o .Lacquer, true), (.b "NoneType", false)] (evV 0)))) (tOo (tNo (tst (evCall0 1 G_l_int [.e (ev1 (dFld .Lacquer 0) (evV 0))]))) (tNo (tst (evCall0 1 G_l_int [.e (ev1 (dFld .Lacquer 1) (evV 0))])))))
    (evRet (vD (.bl false)))
    evNx)
    (evSeq (evIf (tOo (tst (ev2 dNe (ev1 (dFld .Lacquer 0) (evV 0)) (evV 1))) (tst (ev2 dNe (ev1 (dFld .Lacquer 1) (evV 0)) (evV 2))))
    (evRet (vD (.bl false)))
    evNx)
    (evRet (vAn (evCall0 1 G_l_int [.e (evMeth 1 G_Lacquer_slack .Lacquer (evV 0) [])]) (ev2 dEq (evMeth 1 G_Lacquer_slack .Lacquer (evV 0) []) (ev2 dSub (evV 2) (evV 1)))))))
def G_l_numbers : Fn := run0 0 B_l_numbers
def B_l_equals : M Fl :=
    (evSeq (evAsg 3 (evOwn2 2 G_Lacquer_eq .Lacquer (evV 0) (evV 1)))
    (evRet (vAn (evIsi [(.b "bool", true)] (evV 3)) (ev2 dEq (evV 3) (evV 2)))))
def G_l_equals : Fn := run0 1 B_l_equals
def B_l_whole_one : M Fl :=
    (evSeq (evAsg 6 (ev2 dIx (evV 1) (vD (.int 0))))
    (evSeq (evAsg 7 (ev2 dIx (evV 1) (vD (.int 1))))
    (evSeq (evIf (tOo (tNo (tst (evCall0 3 G_l_numbers [.e (evV 0), .e (evV 6), .e (evV 7)]))) (tNo (tst (evCall0 4 G_l_steps [.e (evV 0), .e (evV 6), .e (evV 7), .e (evV 5)]))))
    (evRet (vD (.bl false)))
    evNx)
    (evSeq (evIf (tNo (tst (evCall0 5 G_l_counts [.e (evV 0), .e (evV 6), .e (evV 7), .e (evV 2), .e (evV 3)])))
    (evRet (vD (.bl false)))
    evNx)
    (evSeq (evIf (tOo (tNo (tst (evCall0 3 G_l_bars [.e (evV 0), .e (vD (.int 0)), .e (ev2 dSub (ev1 dNeg (vD (.int 1))) (evV 4))]))) (tNo (tst (evCall0 3 G_l_bars [.e (evV 0), .e (vD (.int 1)), .e (ev2 dSub (ev1 dNeg (vD (.int 1))) (evV 4))]))))
    (evRet (vD (.bl false)))
    evNx)
    (evSeq (evIf (tOo (tNo (tst (evCall0 3 G_l_bars [.e (evV 0), .e (vD (.int 2)), .e (vD (.int 0))]))) (tNo (tst (evCall0 3 G_l_bars [.e (evV 0), .e (vD (.int 2)), .e (ev2 dSub (ev1 dNeg (vD (.int 1))) (evV 4))]))))
    (evRet (vD (.bl false)))
    evNx)
    (evSeq (evIf (tOo (tNo (tst (evCall0 5 G_l_counts [.e (evV 0), .e (evV 6), .e (evV 7), .e (evV 2), .e (evV 3)]))) (tNo (tst (evCall0 3 G_l_equals [.e (evV 0), .e (evCall0 2 G_l_made [.e (evV 6), .e (evV 7)]), .e (vD (.bl true))]))))
    (evRet (vD (.bl false)))
    evNx)
    (evRet (evCall0 3 G_l_numbers [.e (evV 0), .e (evV 6), .e (evV 7)])))))))))
def G_l_whole_one : Fn := run0 2 B_l_whole_one
def B_l_yields : M Fl :=
    (evSeq (evAsgC 1 (evLst []))
    (evSeq (evFor (itR2 (vD (.int 2)) (ev2 dAdd (evV 0) (vD (.int 1)))) (.n 2)
    (evFor (itR2 (vD (.int 1)) (evV 2)) (.n 3)
    (evEx (evBmL 1 fApp [.e (evTup [.e (evV 3), .e (evV 2)])]))))
    (evSeq (evAsgC 1 (evBc gSrtL [.e (evF 1)]))
    (evSeq (evAsg 4 (evCall0 1 G_f_lacquers [.e (evV 0)]))
    (evSeq (evIf (tst (ev2 dNe (evB gLen [.e (evV 4)]) (evB gLen [.e (evF 1)])))
    (evRet (vD (.bl false)))
    evNx)
    (evSeq (evFor (itR1 (evB gLen [.e (evF 1)])) (.n 5)
    (evIf (tNo (tst (evCall0 3 G_l_numbers [.e (ev2 dIx (evV 4) (evV 5)), .e (ev2 dIx (ev2 dIx (evF 1) (evV 5)) (vD (.int 0))), .e (ev2 dIx (ev2 dIx (evF 1) (evV 5)) (vD (.int 1)))])))
    (evRet (vD (.bl false)))
    evNx))
    (evRet (vD (.bl true)))))))))
def G_l_yields : Fn := run0 5 B_l_yields
def B_l_law : M Fl :=
    (evSeq (evAsgC 1 (evCall0 1 G_l_pool [.e (evCall0 2 G_l_cell [.e (evV 0), .e (vD (.int 0))])]))
    (evSeq (evIf (tst (ev2 dEq (evCall0 2 G_l_take [.c 1, .e (vD (.int 2))]) (vD (.int 1))))
    (evAsg 2 (evCall0 2 G_l_ab [.c 1, .e (vD (.int 12))]))
    (evSeq (evAsg 3 (evCall0 1 G_l_any [.c 1]))
    (evAsg 2 (evTup [.e (evV 3), .e (evCall0 1 G_l_any [.c 1])]))))
    (evSeq (evAsgC 1 (evCall0 1 G_l_pool [.e (evCall0 2 G_l_cell [.e (evV 0), .e (vD (.int 1))])]))
    (evSeq (evAsg 4 (evCall0 2 G_l_ab [.c 1, .e (vD (.int 12))]))
    (evSeq (evIf (tst (ev2 dEq (evCall0 2 G_l_take [.c 1, .e (vD (.int 8))]) (vD (.int 5))))
    (evSeq (evAsg 5 (evCall0 2 G_l_take [.c 1, .e (vD (.int 1001))]))
    (evAsg 6 (evCall0 2 G_l_take [.c 1, .e (vD (.int 1001))])))
    (evSeq (evAsg 5 (evCall0 2 G_l_take [.c 1, .e (vD (.int 61))]))
    (evAsg 6 (evCall0 2 G_l_take [.c 1, .e (vD (.int 131))]))))
    (evSeq (evIf (tst (ev2 dEq (evCall0 2 G_l_take [.c 1, .e (vD (.int 16))]) (vD (.int 9))))
    (evSeq (evAsg 5 (evCall0 2 G_l_take [.c 1, .e (vD (.int 100000))]))
    (evAsg 6 (evCall0 2 G_l_take [.c 1, .e (vD (.int 100000))])))
    evNx)
    (evSeq (evAsg 7 (evCall0 2 G_l_take [.c 1, .e (vD (.int 20))]))
    (evSeq (evAsg 8 (evCall0 1 G_l_any [.c 1]))
    (evSeq (evAsg 9 (ev2 dAdd (vD (.int 1)) (evCall0 2 G_l_take [.c 1, .e (vD (.int 12))])))
    (evSeq (evAsg 10 (evCall0 2 G_l_made [.e (ev2 dIx (evV 4) (vD (.int 0))), .e (ev2 dIx (evV 4) (vD (.int 1)))]))
    (evSeq (evIf (tst (ev2 dIs (evV 10) (vD .non)))
    (evRet (vD (.bl false)))
    evNx)
    (evSeq (evIf (tAn (tst (ev2 dLe (vD (.int 1)) (ev2 dIx (evV 2) (vD (.int 0))))) (tAn (tst (ev2 dLt (ev2 dIx (evV 2) (vD (.int 0))) (ev2 dIx (evV 2) (vD (.int 1))))) (tst (ev2 dLe (ev2 dIx (evV 2) (vD (.int 1))) (vD (.int 12))))))
    (evSeq (evAsg 11 (evCall0 2 G_l_made [.e (ev2 dIx (evV 2) (vD (.int 0))), .e (ev2 dIx (evV 2) (vD (.int 1)))]))
    (evSeq (evIf (tNo (tst (evCall0 6 G_l_whole_one [.e (evV 11), .e (evV 2), .e (evV 5), .e (evV 6), .e (evV 7), .e (evV 8)])))
    (evRet (vD (.bl false)))
    evNx)
    (evIf (tOo (tNo (tst (evCall0 3 G_l_equals [.e (evV 11), .e (evV 10), .e (ev2 dEq (evV 2) (evV 4))]))) (tNo (tst (evCall0 3 G_l_equals [.e (evV 10), .e (evV 11), .e (ev2 dEq (evV 2) (evV 4))]))))
    (evRet (vD (.bl false)))
    evNx)))
    (evIf (tNo (tst (evCall0 2 G_l_refuses [.e (ev2 dIx (evV 2) (vD (.int 0))), .e (ev2 dIx (evV 2) (vD (.int 1)))])))
    (evRet (vD (.bl false)))
    evNx))
    (evSeq (evIf (tNo (tst (evCall0 6 G_l_whole_one [.e (evV 10), .e (evV 4), .e (evV 5), .e (evV 6), .e (evV 7), .e (evV 8)])))
    (evRet (vD (.bl false)))
    evNx)
    (evSeq (evIf (tOo (tNo (tst (evCall0 2 G_l_refuses [.e (ev2 dIx (evV 4) (vD (.int 0))), .e (ev2 dIx (evV 4) (vD (.int 0)))]))) (tNo (tst (evCall0 2 G_l_refuses [.e (vD (.int 0)), .e (ev2 dIx (evV 4) (vD (.int 1)))]))))
    (evRet (vD (.bl false)))
    evNx)
    (evSeq (evIf (tOo (tNo (tst (evCall0 2 G_l_refuses [.e (ev2 dIx (evV 4) (vD (.int 0))), .e (ev2 dAdd (vD (.int 13)) (evV 7))]))) (tNo (tst (evCall0 2 G_l_refuses [.e (ev2 dIx (evV 4) (vD (.int 1))), .e (ev2 dIx (evV 4) (vD (.int 0)))]))))
    (evRet (vD (.bl false)))
    evNx)
    (evSeq (evIf (tOo (tNo (tst (evCall0 1 G_l_int [.e (vD (.int 12))]))) (tst (ev2 dNe (vD (.int 12)) (vD (.int 12)))))
    (evRet (vD (.bl false)))
    evNx)
    (evRet (vAn (evCall0 1 G_l_yields [.e (evV 9)]) (vAn (evCall0 1 G_l_yields [.e (ev2 dSub (vD (.int 13)) (evV 9))]) (evCall0 1 G_l_yields [.e (evV 9)]))))))))))))))))))))
def G_l_law : Fn := run0 11 B_l_law
end DP
namespace DP
open PySem PySem.Spec PyProof.Rows L2 PL
/-- the rules, and the reckoning of slots -/
local macro_rules | `(tactic| walk_at "ys") => `(tactic| try simp (config := { maxSteps := 1000000, dsimp := false }) only [List.length_map, sg_len, sg_app, sg_dot, sg_hash, sg_nil, sg1, ↓Y_pur, ↓Y_fai, ↓Y_bnd, ↓Y_noEr, ↓Y_vD, ↓Y_evV, ↓Y_evF, ↓Y_evM, ↓Y_dat, ↓Y_tst, ↓Y_ev2, ↓Y_ev2c, ↓Y_ev1, ↓Y_seq, ↓Y_evIf, ↓Y_tNo, ↓Y_tAn, ↓Y_tOo, ↓Y_vNo, ↓Y_vAn, ↓Y_vOo, ↓Y_vIf, ↓Y_ch2, ↓Y_ch3, ↓Y_setD, ↓Y_setC, ↓Y_asg, ↓Y_asgC, ↓Y_ret, ↓Y_ex, ↓Y_nx, ↓Y_look, ↓Y_lookE,
  ↓Y_ds0, ↓Y_dsE, ↓Y_dsS, ↓Y_B, ↓Y_Bc, ↓Y_tup, ↓Y_lst, ↓Y_bmL, ↓Y_ixL, ↓Y_LstRg, ↓Y_SrtSt, ↓Y_Sc2, ↓Y_Rng2, ↓Y_asgX, ↓Y_Txm, gFind1, gFind3, gRfind4, ↓Y_setI, ↓Y_as0, ↓Y_asE, ↓Y_asC, ↓Y_callG, ↓Y_call, ↓Y_call0, ↓Y_BestN, ↓Y_st, ↓Y_ownIn, ↓Y_ownNin, ↓Y_callV, ↓Y_CallV, ↓Y_CallV0, ↓Y_CallVS, datas_0, datas_d, List.drop_succ_cons, List.drop_zero, ↓Y_own2, ↓Y_own2S, ↓Y_CallC, ↓Y_CallCS, ↓Y_mkL, ↓Y_callN, ↓Y_CallN, ↓Y_CallN0, ↓Y_mkG, ↓Y_mk, ↓Y_mk0, ↓Y_meth, ↓Y_methS, ↓Y_runB, ↓Y_run0, ↓Y_raise, ↓Y_raise1, ↓Y_raiseP, ↓Y_for, ↓Y_isi, ↓Y_tTr, ↓Y_fldS, ↓Y_asgN, ↓Y_dget, ↓Y_dget2, ↓Y_dput, ↓Y_sortDR, D.key, ↓Y_asgT, ↓Y_asgTt, ↓Y_asgTs0, ↓Y_asgTsC, ↓Y_part0, ↓Y_partS, ↓Y_sl, ↓Y_rev, ↓Y_vNoT, ↓Y_maxD, ↓Y_itO, ↓Y_lc, ↓Y_lc2, ↓Y_tryO, ↓Y_tryA, ↓Y_tryM, ↓Y_pick0, ↓Y_pickC, ↓Y_suiteA, eqL_ints, qe_ii, qe_bb, qe_ss, qe_nn, qe_ni, qe_in, qe_nb, qe_bn, qe_ns, qe_sn, qe_is, qe_si, qe_bs, qe_sb, in_ints, ↓Y_isE, ↓Y_js0, ↓Y_jsC, ↓Y_jn, ne_0, ne_d, ne_u, ne_c, ne_x, dFmt, cs_u, cs_d, cs_o, cs_x, okOwn, List.all_cons, List.all_nil, wipeR, restR, ↓Y_itS, ↓Y_join, ↓Y_xf, ↓Y_itL, ↓Y_itT, ↓Y_itR1, ↓Y_itET, ↓Y_itR3, ↓Y_itZ, ↓Y_itZS, ↓Y_cnt, ↓Y_itEL, ↓Y_itR2,
  List.getElem?_cons_zero, List.getElem?_cons_succ, List.getElem?_nil, List.set_cons_zero, List.set_cons_succ, List.replicate_succ, List.replicate_zero, List.cons_append, List.nil_append, List.append_nil, List.length_cons, List.length_nil, List.map_nil, List.map_cons, List.tail_cons, List.head?_cons, List.head?_nil, Option.getD_some, Option.getD_none, Option.map_some, Option.map_none, Option.bind_some, Option.bind_none, List.take_succ_cons, List.take_zero,
  at_0, at_1, at_2, at_3, at_4, at_5, at_6, at_7, ix_30, ix_31, ix_32, outs, argSl, back, updc, lkS_c, lkS_n, lk1_u, lk1_d, lk1_x, lk1_s, celsOf, fz_l, fz_k, fz_t, fz_lac, fz_cli, fz_wea, fz_rat, fz_ste, fz_web, fz_sky, fz_hab, fz_dia, pu_0, pu_lac, pu_rat, pu_web, pu_hab, ex_if, ex_so, ex_sb, lk_b, lk_bo, lk_ob, lk_o, lk_c, ty_n, ty_b, ty_i, ty_s, ty_t, ty_l, ty_q, ty_o, String.reduceEq, reduceCtorEq, reduceIte, dAdd, dSub, dMul, dDiv, dDivN, dMod, dPow, dNeg, dLt, dLe, dGt, dGe, dIx, dFld, dEq, dNe, dIs, dIsNot, dIsB, dNotB, D.isN, gLen, gInt, gMax2, gMin2, gMax3, gMin3, PL.gTup, PL.gLst, gLstO, D.items, D.litems, D.titems, D.truth, fApp, fClr, Rv.lfree, Rv.lfreeO, plfree, D.lfree, D.lfrees, cCat, dAddS, dMulS, dCatT,
  decide_eq_true_eq, Bool.not_eq_true', decide_eq_false_iff_not, true_and, and_true, if_true, if_false, Bool.false_eq_true, ite_true, ite_false, Bool.and_eq_true, Bool.and_true, Bool.true_and, Nat.reduceAdd, Nat.reduceLeDiff, List.nodup_nil, List.nodup_cons, List.not_mem_nil, not_false_eq_true, and_self])
theorem mOkL {i j : Int} (h : -(2 ^ 64) < i ∧ i < 2 ^ 64) : mulOk i j := .inl h
theorem mOkR {i j : Int} (h : -(2 ^ 64) < j ∧ j < 2 ^ 64) : mulOk i j := .inr (.inl h)
theorem dOk {j : Int} (h1 : 0 < j) (h2 : j < 1073741824) : divOk j := ⟨h1, .inl h2⟩
/-- a pool: three ints -/
abbrev Po (x y z : Int) : Sl := .cel .par (.lst [.int x, .int y, .int z])
theorem y_cell (ns : List Int) (k : Int) (hk : 0 ≤ k) {K : Rv → List Sl → Prop} (h : ∀ c : Int, K (.d (.int c)) [.dat (.sq (ns.map .int)), .dat (.int k)]) : Y G_l_cell [.dat (.sq (ns.map .int)), .dat (.int k)] K NX := by
  unfold G_l_cell B_l_cell
  walk_at "ys"
  split
  · rename_i c
    try rw [List.length_map] at c
    obtain ⟨n, rfl⟩ := Int.eq_ofNat_of_zero_le hk
    have l : n < ns.length := by omega
    refine ⟨_, ?_, h (ns[n])⟩
    rw [at_lt n (by simpa using l)]
    simp [l]
  · exact ⟨mOkL (by omega), h _⟩
theorem y_pool (c : Int) {K : Rv → List Sl → Prop} (h : ∀ x y z : Int, K (.c (.lst [.int x, .int y, .int z])) [.dat (.int c)]) : Y G_l_pool [.dat (.int c)] K NX := by
  unfold G_l_pool B_l_pool
  walk_at "ys"
  refine ⟨by decide, ?_⟩
  split
  · exact ⟨by decide, by omega, h _ _ _⟩
  · split
    · exact ⟨mOkL (by omega), by omega, h _ _ _⟩
    · exact ⟨mOkL (by omega), by omega, h _ _ _⟩
theorem y_take (x y z s : Int) (h1 : 1 ≤ s) (h2 : s < 1000000000) {K : Rv → List Sl → Prop} (h : ∀ d x' y' z' : Int, 0 ≤ d → d < s → K (.d (.int d)) [Po x' y' z', .dat (.int s)]) : Y G_l_take [Po x y z, .dat (.int s)] K NX := by
  unfold G_l_take B_l_take
  walk_at "ys"
  split
  · exact ⟨by omega, dOk (by omega) (by omega), h _ _ _ _ (Int.emod_nonneg _ (by omega)) (Int.emod_lt_of_pos _ (by omega))⟩
  · refine ⟨mOkL (by omega), by omega, ?_⟩
    generalize e1 : (y + 48271 * (z + 1) + 12345) % 2147483647 = u
    have u1 : 0 ≤ u ∧ u < 2147483647 := by omega
    refine ⟨mOkL (by omega), mOkL (by omega), by omega, ?_⟩
    generalize e2 : (u * u + 16807 * (z + 1) + 7) % 2147483629 = v
    have v1 : 0 ≤ v ∧ v < 2147483629 := by
      rw [← e2]; exact ⟨Int.emod_nonneg _ (by omega), Int.emod_lt_of_pos _ (by omega)⟩
    refine ⟨mOkL (by omega), mOkL (by omega), by omega, dOk (by omega) (by omega), by omega, ?_⟩
    exact h _ _ _ _ (Int.emod_nonneg _ (by omega)) (Int.emod_lt_of_pos _ (by omega))
/-- kinds as data -/
def kd (k : Int × Int) : D := .tup [.int k.1, .int k.2]
def kl (ks : List (Int × Int)) : List D := ks.map kd
def Gd (p n : Int) (ks : List (Int × Int)) : Prop := ∀ k ∈ ks, 1 ≤ k.1 ∧ k.1 ≤ p ∧ 1 ≤ k.2 ∧ k.2 ≤ n
theorem Gd.snoc {p n : Int} {ks : List (Int × Int)} {w g : Int} (h : Gd p n ks) (a : 1 ≤ w) (b : w ≤ p) (c : 1 ≤ g) (d : g ≤ n) : Gd p n (ks ++ [(w, g)]) := by
  intro k hk
  rcases List.mem_append.mp hk with q | q
  · exact h k q
  · simp at q; subst q; exact ⟨a, b, c, d⟩
theorem rng_len (lo : Int) (n : Nat) : (rngD lo n).length = n := by simp [rngD]

theorem rngc {lo : Int} {n i : Nat} (h : i < n) : (rngD lo n).drop i = D.int (lo + i) :: (rngD lo n).drop (i + 1) := by
  have l : i < (rngD lo n).length := by rw [rng_len]; exact h
  rw [List.drop_eq_getElem_cons l]
  simp [rngD]
theorem rngc_end {lo : Int} {n i : Nat} (h : n ≤ i) : (rngD lo n).drop i = [] := List.drop_eq_nil_of_le (by rw [rng_len]; exact h)
theorem rngc_lt {lo : Int} {n i : Nat} {x : D} {r : List D} (e : x :: r = (rngD lo n).drop i) : i < n ∧ x = .int (lo + i) ∧ r = (rngD lo n).drop (i + 1) := by
  rcases Nat.lt_or_ge i n with q | q
  · rw [rngc q] at e
    cases e
    exact ⟨q, rfl, rfl⟩
  · rw [rngc_end q] at e
    cases e
theorem rngc_ge {lo : Int} {n i : Nat} (e : [] = (rngD lo n).drop i) : n ≤ i := by
  rcases Nat.lt_or_ge i n with q | q
  · rw [rngc q] at e
    cases e
  · exact q

theorem at_map {α β : Type} {f : α → β} {l : List α} (i : Nat) (h : i < l.length) : atI (l.map f) (i : Int) = some (f l[i]) := by
  rw [at_lt i (by rw [List.length_map]; exact h)]
  simp [h]
theorem pys_ints : ∀ xs : List Int, D.pys (xs.map D.int) = some (xs.map PyData.int)
  | [] => rfl
  | x :: xs => by
    have := pys_ints xs
    rw [List.map_cons, D.pys, this]
    rfl
theorem lay_ints : ∀ xs : List Int, PyData.canLayAll0 (xs.map PyData.int) = true
  | [] => rfl
  | x :: xs => by
    have := lay_ints xs
    rw [List.map_cons, PyData.canLayAll0, this]
    rfl
theorem dep_ints : ∀ xs : List Int, PyData.depthAll (xs.map PyData.int) = 0
  | [] => rfl
  | x :: xs => by
    have := dep_ints xs
    rw [List.map_cons, PyData.depthAll, this]
    rfl
theorem shp_ints (xs : List Int) : SeqAt.shaped (.list (xs.map PyData.int)) = true := by
  have h1 : PyData.canLay0 (.list (xs.map PyData.int)) = true := by rw [PyData.canLay0]; exact lay_ints xs
  have h2 : PyData.depth (.list (xs.map PyData.int)) = 1 := by rw [PyData.depth, dep_ints]
  unfold SeqAt.shaped
  rw [h1, h2]
  rfl
theorem eqv_ints : ∀ xs ys : List Int, PyData.eqvAll (xs.map PyData.int) (ys.map PyData.int) = decide (xs = ys)
  | [], [] => rfl
  | [], _ :: _ => rfl
  | _ :: _, [] => rfl
  | x :: xs, y :: ys => by
    have := eqv_ints xs ys
    rw [List.map_cons, List.map_cons, PyData.eqvAll, this]
    show (x == y && decide (xs = ys)) = _
    (by_cases h1 : x = y <;> by_cases h2 : xs = ys <;> simp [h1, h2])
theorem eqL_ints (xs ys : List Int) : D.eq? (.lst (xs.map D.int)) (.lst (ys.map D.int)) = some (decide (xs = ys)) := by
  have e1 : D.py (.lst (xs.map D.int)) = some (.list (xs.map PyData.int)) := by rw [D.py, pys_ints]; rfl
  have e2 : D.py (.lst (ys.map D.int)) = some (.list (ys.map PyData.int)) := by rw [D.py, pys_ints]; rfl
  have h1 := shp_ints xs
  have h2 := shp_ints ys
  have h3 : PyData.eqv (.list (xs.map PyData.int)) (.list (ys.map PyData.int)) = decide (xs = ys) := by rw [PyData.eqv]; exact eqv_ints xs ys
  show (match D.py (.lst (xs.map D.int)), D.py (.lst (ys.map D.int)) with
    | some x, some y => if SeqAt.shaped x && SeqAt.shaped y then some (PyData.eqv x y) else none
    | _, _ => none) = _
  rw [e1, e2]
  simp [h1, h2, h3]
theorem neL_ints (xs ys : List Int) : dNe (.lst (xs.map D.int)) (.lst (ys.map D.int)) = some (.bl (!decide (xs = ys))) := by
  unfold dNe
  rw [eqL_ints]
  rfl
theorem in_ints (x : Int) (xs : List Int) : dIn (.int x) (.lst (xs.map D.int)) = some (.bl (decide (x ∈ xs))) := by
  unfold dIn dInB
  simp only [D.items, Option.bind_some, D.ints_map, Option.map_some]
  congr 2
  by_cases h : x ∈ xs <;> simp [h]

theorem eqT_ints (xs ys : List Int) : D.eq? (.tup (xs.map D.int)) (.tup (ys.map D.int)) = some (decide (xs = ys)) := by
  have e1 : D.py (.tup (xs.map D.int)) = some (.tuple (xs.map PyData.int)) := by rw [D.py, pys_ints]; rfl
  have e2 : D.py (.tup (ys.map D.int)) = some (.tuple (ys.map PyData.int)) := by rw [D.py, pys_ints]; rfl
  have sh : ∀ zs : List Int, SeqAt.shaped (.tuple (zs.map PyData.int)) = true := fun zs => by
    have h1 : PyData.canLay0 (.tuple (zs.map PyData.int)) = true := by rw [PyData.canLay0]; exact lay_ints zs
    have h2 : PyData.depth (.tuple (zs.map PyData.int)) = 1 := by rw [PyData.depth, dep_ints]
    unfold SeqAt.shaped
    rw [h1, h2]
    rfl
  have h1 := sh xs
  have h2 := sh ys
  have h3 : PyData.eqv (.tuple (xs.map PyData.int)) (.tuple (ys.map PyData.int)) = decide (xs = ys) := by rw [PyData.eqv]; exact eqv_ints xs ys
  show (match D.py (.tup (xs.map D.int)), D.py (.tup (ys.map D.int)) with
    | some x, some y => if SeqAt.shaped x && SeqAt.shaped y then some (PyData.eqv x y) else none
    | _, _ => none) = _
  rw [e1, e2]
  simp [h1, h2, h3]
theorem qe_t2 {a b c d : Int} : D.eq? (.tup [.int a, .int b]) (.tup [.int c, .int d]) = some (decide (a = c ∧ b = d)) := by
  have := eqT_ints [a, b] [c, d]
  rw [show decide ([a, b] = [c, d]) = decide (a = c ∧ b = d) by simp] at this
  exact this

abbrev La (a b : Int) : D := .obj .Lacquer [.int a, .int b]
theorem y_ceil (x y : Int) (h1 : 0 < y) (h2 : y < 1000000) {K : Rv → List Sl → Prop} {X : XC} (h : K (.d (.int (-(-x / y)))) [.dat (.int x), .dat (.int y)]) : Y G_f_ceil_div [.dat (.int x), .dat (.int y)] K X := by
  unfold G_f_ceil_div B_f_ceil_div
  walk_at "ys"
  exact ⟨dOk (by omega) (by omega), h⟩
theorem y_lac (a b : Int) (h1 : 1 ≤ a) (h2 : a < b) (h3 : b ≤ 12) {K : Rv → List Sl → Prop} {X : XC} (h : K (.d .non) [.cel .par (.obj .Lacquer [("a", .int a), ("b", .int b)]), .dat (.int a), .dat (.int b)]) : Y G_Lacquer_init [.cel .par (.obj .Lacquer []), .dat (.int a), .dat (.int b)] K X := by
  unfold G_Lacquer_init B_Lacquer_init
  walk_at "ys"
  rw [if_pos h1, if_pos h2, if_neg (by omega)]
  exact ⟨by omega, by omega, h⟩

theorem y_ab (x y z m : Int) (h1 : 2 ≤ m) (h2 : m < 1000) {K : Rv → List Sl → Prop} (h : ∀ a b x' y' z' : Int, 1 ≤ a → a < b → b ≤ m → K (.d (.tup [.int a, .int b])) [Po x' y' z', .dat (.int m)]) : Y G_l_ab [Po x y z, .dat (.int m)] K NX := by
  unfold G_l_ab B_l_ab
  walk_at "ys"
  refine y_take _ _ _ _ (by omega) (by omega) fun d x1 y1 z1 d1 d2 => ?_
  walk_at "ys"
  refine y_take _ _ _ _ (by omega) (by omega) fun e x2 y2 z2 e1 e2 => ?_
  walk_at "ys"
  exact h _ _ _ _ _ (by omega) (by omega) (by omega)

theorem y_turns (a b w : Int) (h1 : 1 ≤ a) (h2 : a < b) (h3 : b ≤ 12) (hw : 0 ≤ w) {K : Rv → List Sl → Prop} {X : XC} (h : K (.d (.int (-(-w / a)))) [.dat (La a b), .dat (.int w)]) : Y G_Lacquer_turns [.dat (La a b), .dat (.int w)] K X := by
  unfold G_Lacquer_turns B_Lacquer_turns
  walk_at "ys"
  rw [if_neg (by omega)]
  exact y_ceil _ _ (by omega) (by omega) h

section
variable {KG : Fl × List D → List Sl → Prop} {X : XC} {ρ : List Sl} {ys : List D}
theorem Y_runG {k : Nat} {m : MG} {ss : List Sl} {K : Rv → List Sl → Prop} (h : Y (m []) (ss ++ List.replicate k .un) (fun r ρ => r.1 = .nx ∧ K (.c (.lst r.2)) (outs ss ρ)) NX) : Y (runG k m) ss K X := by
  obtain ⟨⟨f, out⟩, ρ1, e, e1, h⟩ := h.mk
  obtain rfl : f = .nx := e1
  exact Y.of (by unfold runG; rw [e]) h
theorem Y_gSeq {a b : MG} {J : List D → List Sl → Prop} (h : Y (a ys) ρ (fun r ρ1 => r.1 = .nx ∧ J r.2 ρ1) X) (k : ∀ ys ρ1, J ys ρ1 → Y (b ys) ρ1 KG X) : Y (gSeq a b ys) ρ KG X := by
  unfold gSeq
  rw [Y_bnd]
  refine h.mono (fun r ρ1 q => ?_) fun _ _ _ q => q
  obtain ⟨f, y⟩ := r
  obtain ⟨e, q⟩ := q
  obtain rfl : f = .nx := e
  exact k _ _ q
theorem Y_gY {e : Ev} (l : ys.length < 16777216) (h : Y (dat e) ρ (fun d ρ1 => KG (.nx, ys ++ [d]) ρ1) X) : Y (gY e ys) ρ KG X := by
  unfold gY
  rw [Y_bnd]
  exact h.mono (fun f ρ1 q => by rw [if_pos l, Y_pur]; exact q) fun _ _ _ q => q
theorem Y_gNx (h : KG (.nx, ys) ρ) : Y (gNx ys) ρ KG X := by
  unfold gNx
  rw [Y_pur]
  exact h
theorem Y_gLoop {tg : Tg} {b : MG} {I : List D → List D → List Sl → Prop} (e : ∀ ys ρ, I [] ys ρ → KG (.nx, ys) ρ) (st : ∀ x r ys ρ, I (x :: r) ys ρ → Y (asgT tg x) ρ (fun f ρ1 => f = .nx ∧ Y (b ys) ρ1 (fun r2 ρ2 => r2.1 = .nx ∧ I r r2.2 ρ2) X) X) : ∀ (xs ys : List D) (ρ : List Sl), I xs ys ρ → Y (gLoop tg b xs ys) ρ KG X
  | [], ys, ρ, h => by
    unfold gLoop
    rw [Y_pur]
    exact e _ _ h
  | x :: r, ys, ρ, h => by
    unfold gLoop
    rw [Y_bnd]
    refine (st x r ys ρ h).mono (fun f ρ1 q => ?_) fun _ _ _ q => q
    obtain ⟨q1, q⟩ := q
    subst q1
    show Y (bnd (b ys) _) ρ1 KG X
    rw [Y_bnd]
    refine q.mono (fun r2 ρ2 q => ?_) fun _ _ _ q => q
    obtain ⟨f2, y2⟩ := r2
    obtain ⟨q1, q⟩ := q
    obtain rfl : f2 = .nx := q1
    exact Y_gLoop e st r y2 ρ2 q
theorem Y_gFor {it : M (List D)} {tg : Tg} {b : MG} {I : List D → List D → List Sl → Prop} (h : Y it ρ (fun xs ρ1 => I xs ys ρ1) X) (st : ∀ x r ys ρ, I (x :: r) ys ρ → Y (asgT tg x) ρ (fun f ρ1 => f = .nx ∧ Y (b ys) ρ1 (fun r2 ρ2 => r2.1 = .nx ∧ I r r2.2 ρ2) X) X) (e : ∀ ys ρ, I [] ys ρ → KG (.nx, ys) ρ) : Y (gFor it tg b ys) ρ KG X := by
  unfold gFor
  rw [Y_bnd]
  exact h.mono (fun xs ρ1 q => Y_gLoop e st xs ys ρ1 q) fun _ _ _ q => q
end

theorem y_slack (a b : Int) {K : Rv → List Sl → Prop} {X : XC} (h : K (.d (.int (b - a))) [.dat (La a b)]) : Y G_Lacquer_slack [.dat (La a b)] K X := by
  unfold G_Lacquer_slack B_Lacquer_slack
  walk_at "ys"
  exact h
theorem y_spans (a b w : Int) (h1 : a < b) (h3 : b ≤ 100) (h4 : 0 ≤ a) (hw : 0 ≤ w) {K : Rv → List Sl → Prop} {X : XC} (h : K (.d (.int (-(-w / (b - a))))) [.dat (La a b), .dat (.int w)]) : Y G_Lacquer_spans [.dat (La a b), .dat (.int w)] K X := by
  unfold G_Lacquer_spans B_Lacquer_spans
  walk_at "ys"
  rw [if_neg (by omega)]
  refine y_slack a b ?_
  walk_at "ys"
  refine y_ceil _ _ (by omega) (by omega) ?_
  exact h
theorem y_contains (a b x : Int) {K : Rv → List Sl → Prop} {X : XC} (h : K (.d (.bl (decide (a ≤ x ∧ x ≤ b)))) [.dat (La a b), .dat (.int x)]) : Y G_Lacquer_contains [.dat (La a b), .dat (.int x)] K X := by
  unfold G_Lacquer_contains B_Lacquer_contains
  walk_at "ys"
  split
  · rename_i c
    rw [show decide (x ≤ b) = decide (a ≤ x ∧ x ≤ b) by simp [c]]
    exact h
  · rename_i c
    rw [decide_eq_false (fun z => c z.1)] at h
    exact h
theorem y_int (x : Int) {K : Rv → List Sl → Prop} (h : K (.d (.bl true)) [.dat (.int x)]) : Y G_l_int [.dat (.int x)] K NX := by
  unfold G_l_int B_l_int
  walk_at "ys"
  exact h

theorem sl_app (x y : Str) : (x ++ y).length = x.length + y.length := Array.size_append
def Sm (i : Int) : Prop := -(10 ^ 22) < i ∧ i < 10 ^ 22
theorem bg_len {i : Int} (h : Sm i) : (Str.ofString (toString i)).length ≤ 24 := by
  rw [PySem.ofString_length]
  unfold Sm at h
  exact Nat.le_succ_of_le (int_text_length_le10 (k := 22) (by omega) (by omega))
theorem bg_log {i : Int} (h : Sm i) : i.natAbs.log2 < 1920 := by
  unfold Sm at h
  by_cases z : i.natAbs = 0
  · rw [z]; decide
  · exact (Nat.log2_lt z).mpr (Nat.lt_of_lt_of_le (show i.natAbs < 2 ^ 80 by omega) (Nat.pow_le_pow_right (by omega) (by omega)))
theorem msgL {a b : Int} (ha : Sm a) (hb : Sm b) : (Str.empty ++ Str.ofString "a lacquer has no numbers ").length ≤ 16777216 ∧ a.natAbs.log2 < 1920 ∧ (Str.empty ++ Str.ofString "a lacquer has no numbers " ++ Str.ofString (toString a)).length ≤ 16777216 ∧
    (Str.empty ++ Str.ofString "a lacquer has no numbers " ++ Str.ofString (toString a) ++ Str.ofString " and ").length ≤ 16777216 ∧ b.natAbs.log2 < 1920 ∧ (Str.empty ++ Str.ofString "a lacquer has no numbers " ++ Str.ofString (toString a) ++ Str.ofString " and " ++ Str.ofString (toString b)).length ≤ 16777216 := by
  have e0 : Str.empty.length = 0 := by decide
  have e1 : (Str.ofString "a lacquer has no numbers ").length = 25 := by decide
  have e2 : (Str.ofString " and ").length = 5 := by decide
  have l1 := bg_len ha
  have l2 := bg_len hb
  simp only [sl_app, e0, e1, e2]
  exact ⟨by omega, bg_log ha, by omega, by omega, bg_log hb, by omega⟩
theorem y_lac_no (a b : Int) (ha : Sm a) (hb : Sm b) (hn : ¬ (1 ≤ a ∧ a < b ∧ b ≤ 12)) {K : Rv → List Sl → Prop} {X : XC} (h : X .BadLacquer none [.cel .par (.obj .Lacquer []), .dat (.int a), .dat (.int b)]) : Y G_Lacquer_init [.cel .par (.obj .Lacquer []), .dat (.int a), .dat (.int b)] K X := by
  obtain ⟨m1, m2, m3, m4, m5, m6⟩ := msgL ha hb
  unfold G_Lacquer_init B_Lacquer_init
  walk_at "ys"
  by_cases c1 : 1 ≤ a
  · rw [if_pos c1]
    by_cases c2 : a < b
    · rw [if_pos c2, if_pos (by omega)]
      exact ⟨m1, m2, m3, m4, m5, m6, h⟩
    · rw [if_neg c2]
      exact ⟨m1, m2, m3, m4, m5, m6, h⟩
  · rw [if_neg c1]
    exact ⟨m1, m2, m3, m4, m5, m6, h⟩
theorem y_lead (a b w : Int) (h1 : 1 ≤ a) (h2 : a < b) (h3 : b ≤ 12) (hw : 1 ≤ w) {K : Rv → List Sl → Prop} {X : XC} (h : K (.d (.int ((-(-w / (b - a)) - 1) * a))) [.dat (La a b), .dat (.int w)]) : Y G_Lacquer_lead [.dat (La a b), .dat (.int w)] K X := by
  unfold G_Lacquer_lead B_Lacquer_lead
  walk_at "ys"
  rw [if_neg (by omega)]
  refine y_spans a b w h2 (by omega) (by omega) (by omega) ?_
  walk_at "ys"
  exact ⟨mOkR (by omega), h⟩
theorem y_far (x y z : Int) {K : Rv → List Sl → Prop} (h : ∀ i x' y' z' : Int, Sm i → K (.d (.int i)) [Po x' y' z']) : Y G_l_far [Po x y z] K NX := by
  unfold G_l_far B_l_far
  walk_at "ys"
  refine ⟨by omega, ?_⟩
  refine Y_loop (I := fun r ρ => ∃ (i : Nat) (v x y z : Int) (s : Sl), r = (rngD 0 (4 : Int).toNat).drop i ∧ i ≤ 4 ∧ 0 ≤ v ∧ v < 100000 ^ i ∧ ρ = [Po x y z, .dat (.int v), s] ∧ canSet s = true) ⟨0, 0, x, y, z, .un, rfl, by omega, by omega, by decide, rfl, rfl⟩ (fun q r ρ => ?_) (fun ρ => ?_)
  · rintro ⟨i, v, x, y, z, s, er, i4, v0, v1, rfl, c⟩
    obtain ⟨hi, rfl, rfl⟩ := rngc_lt er
    have v2 : v < 100000000000000000000 := by
      have : i = 0 ∨ i = 1 ∨ i = 2 ∨ i = 3 := by omega
      rcases this with e | e | e | e <;> subst e <;> revert v1 <;> intro v1 <;> simp at v1 <;> omega
    walk_at "ys"
    refine ⟨c, mOkR (by omega), ?_⟩
    refine y_take _ _ _ _ (by omega) (by omega) fun d x1 y1 z1 d1 d2 => ?_
    walk_at "ys"
    refine ⟨i + 1, v * 100000 + d, x1, y1, z1, _, rfl, by omega, by omega, ?_, rfl, rfl⟩
    rw [Int.pow_succ]
    omega
  · rintro ⟨i, v, x, y, z, s, er, i4, v0, v1, rfl, c⟩
    have e : i = 4 := by
      have := rngc_ge er
      omega
    subst e
    have v1 : v < 100000000000000000000 := v1
    walk_at "ys"
    refine y_take _ _ _ _ (by omega) (by omega) fun d x1 y1 z1 d1 d2 => ?_
    walk_at "ys"
    split
    · exact h _ _ _ _ ⟨by omega, by omega⟩
    · exact h _ _ _ _ ⟨by omega, by omega⟩
theorem y_any (x y z : Int) {K : Rv → List Sl → Prop} (h : ∀ i x' y' z' : Int, Sm i → K (.d (.int i)) [Po x' y' z']) : Y G_l_any [Po x y z] K NX := by
  unfold G_l_any B_l_any
  walk_at "ys"
  refine y_take _ _ _ _ (by omega) (by omega) fun d x1 y1 z1 d1 d2 => ?_
  walk_at "ys"
  split
  · refine y_far _ _ _ fun i x2 y2 z2 hi => ?_
    walk_at "ys"
    exact h _ _ _ _ hi
  · refine y_take _ _ _ _ (by omega) (by omega) fun d x1 y1 z1 d1 d2 => ?_
    walk_at "ys"
    exact h _ _ _ _ ⟨by omega, by omega⟩

def Ok (a b : Int) : Prop := 1 ≤ a ∧ a < b ∧ b ≤ 12
theorem y_made (a b : Int) (h0 : Ok a b) {K : Rv → List Sl → Prop} (h : K (.d (La a b)) [.dat (.int a), .dat (.int b)]) : Y G_l_made [.dat (.int a), .dat (.int b)] K NX := by
  obtain ⟨h1, h2, h3⟩ := h0
  unfold G_l_made B_l_made
  walk_at "ys"
  refine y_lac a b h1 h2 h3 ?_
  walk_at "ys"
  exact h
theorem y_refuses (a b : Int) (ha : Sm a) (hb : Sm b) (hn : ¬ Ok a b) {K : Rv → List Sl → Prop} (h : K (.d (.bl true)) [.dat (.int a), .dat (.int b)]) : Y G_l_refuses [.dat (.int a), .dat (.int b)] K NX := by
  unfold G_l_refuses B_l_refuses
  walk_at "ys"
  refine y_lac_no a b ha hb hn ?_
  walk_at "ys"
  exact h
theorem y_bars (a b : Int) (n : Int) (n0 : n < 0) {K : Rv → List Sl → Prop} (w : Int) (hw : w = 0 ∨ w = 1 ∨ w = 2) (h : K (.d (.bl true)) [.dat (La a b), .dat (.int w), .dat (.int n)]) : Y G_l_bars [.dat (La a b), .dat (.int w), .dat (.int n)] K NX := by
  unfold G_l_bars B_l_bars
  rcases hw with e | e | e
  · subst e
    walk_at "ys"
    unfold G_Lacquer_spans B_Lacquer_spans
    walk_at "ys"
    rw [if_pos n0]
    exact h
  · subst e
    walk_at "ys"
    unfold G_Lacquer_turns B_Lacquer_turns
    walk_at "ys"
    rw [if_pos n0]
    exact h
  · subst e
    walk_at "ys"
    rw [if_neg (by decide), if_neg (by decide)]
    unfold G_Lacquer_lead B_Lacquer_lead
    walk_at "ys"
    rw [if_pos (by omega)]
    exact h
theorem y_bars0 (a b : Int) {K : Rv → List Sl → Prop} (h : K (.d (.bl true)) [.dat (La a b), .dat (.int 2), .dat (.int 0)]) : Y G_l_bars [.dat (La a b), .dat (.int 2), .dat (.int 0)] K NX := by
  unfold G_l_bars B_l_bars
  walk_at "ys"
  rw [if_neg (by decide), if_neg (by decide)]
  unfold G_Lacquer_lead B_Lacquer_lead
  walk_at "ys"
  exact h
theorem ceil_ge {n k : Int} (hk : 1 ≤ k) : n ≤ -(-n / k) * k ∧ (-(-n / k) - 1) * k < n := by
  have e1 := Int.emod_nonneg (-n) (show k ≠ 0 by omega)
  have e2 := Int.emod_lt_of_pos (-n) (show 0 < k by omega)
  have e3 := Int.mul_ediv_add_emod (-n) k
  have e4 : -(-n / k) * k = -(k * (-n / k)) := by rw [Int.neg_mul, Int.mul_comm]
  have e5 : (-(-n / k) - 1) * k = -(k * (-n / k)) - k := by rw [Int.sub_mul, Int.one_mul, e4]
  omega
theorem y_least (c k n : Int) (hk : 1 ≤ k ∧ k ≤ 12) (h1 : n ≤ c * k) (h2 : (c - 1) * k < n) {K : Rv → List Sl → Prop} (h : K (.d (.bl true)) [.dat (.int c), .dat (.int k), .dat (.int n)]) : Y G_l_least [.dat (.int c), .dat (.int k), .dat (.int n)] K NX := by
  unfold G_l_least B_l_least
  walk_at "ys"
  refine y_int _ ?_
  walk_at "ys"
  refine ⟨mOkR (by omega), ?_⟩
  rw [if_pos h1, decide_eq_true h2]
  exact ⟨mOkR (by omega), h⟩
theorem y_steps (a b f : Int) {K : Rv → List Sl → Prop} (h : K (.d (.bl true)) [.dat (La a b), .dat (.int a), .dat (.int b), .dat (.int f)]) : Y G_l_steps [.dat (La a b), .dat (.int a), .dat (.int b), .dat (.int f)] K NX := by
  unfold G_l_steps B_l_steps
  walk_at "ys"
  refine ⟨by omega, ?_⟩
  refine Y_loop (I := fun r ρ => ∃ (i : Nat) (s : Sl), r = (rngD (-1) (15 - -1 : Int).toNat).drop i ∧ ρ = [.dat (La a b), .dat (.int a), .dat (.int b), .dat (.int f), s] ∧ canSet s = true) ⟨0, .un, rfl, rfl, rfl⟩ (fun x r ρ => ?_) (fun ρ => ?_)
  · rintro ⟨i, s, er, rfl, c⟩
    obtain ⟨hi, rfl, rfl⟩ := rngc_lt er
    walk_at "ys"
    refine ⟨c, ?_⟩
    refine y_contains a b _ ?_
    walk_at "ys"
    by_cases c1 : a ≤ -1 + (i : Int)
    · rw [if_pos c1, if_neg (by simp [c1])]
      exact ⟨i + 1, _, rfl, rfl, rfl⟩
    · rw [if_neg c1, if_neg (by simp [c1])]
      exact ⟨i + 1, _, rfl, rfl, rfl⟩
  · rintro ⟨i, s, er, rfl, c⟩
    walk_at "ys"
    refine y_contains a b _ ?_
    walk_at "ys"
    by_cases c1 : a ≤ f
    · rw [if_pos c1, show (decide (a ≤ f ∧ f ≤ b) == decide (f ≤ b)) = true by simp [c1]]
      exact h
    · rw [if_neg c1, show (decide (a ≤ f ∧ f ≤ b) == false) = true by simp [c1]]
      exact h
theorem y_leastC (k n : Int) (hk : 1 ≤ k ∧ k ≤ 12) {K : Rv → List Sl → Prop} (h : K (.d (.bl true)) [.dat (.int (-(-n / k))), .dat (.int k), .dat (.int n)]) : Y G_l_least [.dat (.int (-(-n / k))), .dat (.int k), .dat (.int n)] K NX :=
  y_least _ _ _ hk (ceil_ge hk.1).1 (ceil_ge hk.1).2 h
theorem y_counts (a b w g : Int) (h0 : Ok a b) (hw : 0 ≤ w) (hg : 0 ≤ g) {K : Rv → List Sl → Prop} (h : K (.d (.bl true)) [.dat (La a b), .dat (.int a), .dat (.int b), .dat (.int w), .dat (.int g)]) : Y G_l_counts [.dat (La a b), .dat (.int a), .dat (.int b), .dat (.int w), .dat (.int g)] K NX := by
  obtain ⟨h1, h2, h3⟩ := h0
  unfold G_l_counts B_l_counts
  walk_at "ys"
  refine y_spans a b w h2 (by omega) (by omega) hw ?_
  walk_at "ys"
  refine y_leastC _ _ (by omega) ?_
  walk_at "ys"
  refine y_turns a b g h1 h2 h3 hg ?_
  walk_at "ys"
  refine y_leastC _ _ (by omega) ?_
  walk_at "ys"
  refine y_spans a b 0 h2 (by omega) (by omega) (by omega) ?_
  walk_at "ys"
  refine y_leastC _ 0 (by omega) ?_
  walk_at "ys"
  refine y_turns a b 0 h1 h2 h3 (by omega) ?_
  walk_at "ys"
  refine y_leastC _ 0 (by omega) ?_
  walk_at "ys"
  refine y_spans a b (w + 1) h2 (by omega) (by omega) (by omega) ?_
  walk_at "ys"
  refine y_leastC _ _ (by omega) ?_
  walk_at "ys"
  refine y_lead a b (w + 1) h1 h2 h3 (by omega) ?_
  walk_at "ys"
  refine y_int _ ?_
  walk_at "ys"
  exact ⟨mOkR (by omega), h⟩
theorem y_numbers (a b : Int) {K : Rv → List Sl → Prop} (h : K (.d (.bl true)) [.dat (La a b), .dat (.int a), .dat (.int b)]) : Y G_l_numbers [.dat (La a b), .dat (.int a), .dat (.int b)] K NX := by
  unfold G_l_numbers B_l_numbers
  walk_at "ys"
  refine y_int _ ?_
  walk_at "ys"
  refine y_int _ ?_
  walk_at "ys"
  refine y_slack a b ?_
  walk_at "ys"
  refine y_int _ ?_
  walk_at "ys"
  refine y_slack a b ?_
  walk_at "ys"
  exact h
theorem y_leq (a b c d : Int) {K : Rv → List Sl → Prop} (h : K (.d (.bl (decide (a = c ∧ b = d)))) [.dat (La a b), .dat (La c d)]) : Y G_Lacquer_eq [.dat (La a b), .dat (La c d)] K NX := by
  unfold G_Lacquer_eq B_Lacquer_eq
  walk_at "ys"
  by_cases c1 : a = c
  · rw [if_pos c1]
    have e : decide (a = c ∧ b = d) = decide (b = d) := decide_eq_decide.mpr ⟨And.right, fun e => ⟨c1, e⟩⟩
    rw [e] at h
    exact h
  · rw [if_neg c1]
    rw [decide_eq_false (show ¬ (a = c ∧ b = d) from fun e => c1 e.1)] at h
    exact h
theorem y_equals (a b c d : Int) (t : Bool) (ht : decide (a = c ∧ b = d) = t) {K : Rv → List Sl → Prop} (h : K (.d (.bl true)) [.dat (La a b), .dat (La c d), .dat (.bl t)]) : Y G_l_equals [.dat (La a b), .dat (La c d), .dat (.bl t)] K NX := by
  unfold G_l_equals B_l_equals
  walk_at "ys"
  refine y_leq a b c d ?_
  rw [ht]
  walk_at "ys"
  rw [beq_self_eq_true]
  exact h
abbrev Pr (a b : Int) : D := .tup [.int a, .int b]
theorem y_whole (a b w g l f : Int) (h0 : Ok a b) (hw : 0 ≤ w) (hg : 0 ≤ g) (hl : 0 ≤ l) {K : Rv → List Sl → Prop} (h : K (.d (.bl true)) [.dat (La a b), .dat (Pr a b), .dat (.int w), .dat (.int g), .dat (.int l), .dat (.int f)]) : Y G_l_whole_one [.dat (La a b), .dat (Pr a b), .dat (.int w), .dat (.int g), .dat (.int l), .dat (.int f)] K NX := by
  unfold G_l_whole_one B_l_whole_one
  walk_at "ys"
  refine y_numbers a b ?_
  walk_at "ys"
  refine y_steps a b f ?_
  walk_at "ys"
  refine y_counts a b w g h0 hw hg ?_
  walk_at "ys"
  refine y_bars a b _ (by omega) 0 (by omega) ?_
  walk_at "ys"
  refine y_bars a b _ (by omega) 1 (by omega) ?_
  walk_at "ys"
  refine y_bars0 a b ?_
  walk_at "ys"
  refine y_bars a b _ (by omega) 2 (by omega) ?_
  walk_at "ys"
  refine y_counts a b w g h0 hw hg ?_
  walk_at "ys"
  refine y_made a b h0 ?_
  walk_at "ys"
  refine y_equals a b a b true (by simp) ?_
  walk_at "ys"
  refine y_numbers a b ?_
  walk_at "ys"
  exact h
/-! the lacquers up to a bound -/
def lqR (n : Int) (i : Nat) : List (Int × Int) := (List.range (n - ((i : Int) + 1)).toNat).map fun (j : Nat) => ((i : Int) + 1, (i : Int) + 2 + (j : Int))
def lqU (n : Int) (k : Nat) : List (Int × Int) := (List.range k).flatMap (lqR n)
def lqD (k : Int × Int) : D := La k.1 k.2
theorem y_lacquers (n : Int) (n1 : 1 ≤ n) (n2 : n ≤ 12) {K : Rv → List Sl → Prop} {X : XC} (h : K (.c (.lst ((lqU n (n - 1).toNat).map lqD))) [.dat (.int n)]) : Y G_f_lacquers [.dat (.int n)] K X := by
  unfold G_f_lacquers B_f_lacquers
  refine Y_runG ?_
  refine Y_gSeq (J := fun ys ρ => ys = (lqU n (n - 1).toNat).map lqD ∧ ∃ s1 s2, ρ = [.dat (.int n), s1, s2]) ?_ ?_
  · refine Y_gFor (I := fun r ys ρ => ∃ (k : Nat) (s1 s2 : Sl), r = (rngD 1 (n - 1).toNat).drop k ∧ k ≤ (n - 1).toNat ∧ ys = (lqU n k).map lqD ∧ ys.length ≤ 12 * k ∧ ρ = [.dat (.int n), s1, s2] ∧ canSet s1 = true ∧ canSet s2 = true) ?_ ?_ ?_
    · walk_at "ys"
      exact ⟨by omega, 0, .un, .un, rfl, by omega, rfl, by simp, rfl, rfl, rfl⟩
    · rintro x r ys ρ ⟨k, s1, s2, er, kl, ey, yl, rfl, c1, c2⟩
      obtain ⟨hk, rfl, rfl⟩ := rngc_lt er
      walk_at "ys"
      refine ⟨c1, ?_⟩
      refine Y_gSeq (J := fun ys2 ρ => ys2 = (lqU n (k + 1)).map lqD ∧ ys2.length ≤ 12 * (k + 1) ∧ ∃ s2, ρ = [.dat (.int n), .dat (.int (1 + k)), s2] ∧ canSet s2 = true) ?_ ?_
      · refine Y_gFor (I := fun r ys2 ρ => ∃ (m : Nat) (s2 : Sl), r = (rngD (1 + k + 1) (n - (k + 1)).toNat).drop m ∧ m ≤ (n - (k + 1)).toNat ∧ ys2 = ys ++ ((List.range m).map fun (j : Nat) => ((k : Int) + 1, (k : Int) + 2 + (j : Int))).map lqD ∧ ρ = [.dat (.int n), .dat (.int (1 + k)), s2] ∧ canSet s2 = true) ?_ ?_ ?_
        · walk_at "ys"
          refine ⟨by omega, 0, s2, ?_, by omega, by simp, rfl, c2⟩
          rw [show n + 1 - (1 + (k : Int) + 1) = n - (k + 1) by omega]
          rfl
        · rintro x r ys2 ρ ⟨m, s2, er, ml, ey2, rfl, c2⟩
          obtain ⟨hm, rfl, rfl⟩ := rngc_lt er
          walk_at "ys"
          refine ⟨c2, ?_⟩
          refine Y_gSeq (J := fun ys3 ρ => ys3 = ys2 ++ [lqD ((k : Int) + 1, (k : Int) + 2 + m)] ∧ ρ = [.dat (.int n), .dat (.int (1 + k)), .dat (.int (1 + k + 1 + m))]) (Y_gY ?_ ?_) ?_
          · rw [ey2]
            simp
            omega
          · walk_at "ys"
            refine y_lac _ _ (by omega) (by omega) (by omega) ?_
            walk_at "ys"
            rw [show (k : Int) + 1 = 1 + k by omega, show (k : Int) + 2 + m = 1 + k + 1 + m by omega]
            rfl
          · rintro _ _ ⟨rfl, rfl⟩
            refine Y_gNx ⟨rfl, m + 1, _, rfl, by omega, ?_, rfl, rfl⟩
            rw [ey2, List.range_succ, List.map_append, List.map_append, List.append_assoc]
            rfl
        · rintro ys2 ρ ⟨m, s2, er, ml, ey2, rfl, c2⟩
          have := rngc_ge er
          have em : m = (n - (k + 1)).toNat := by omega
          subst em
          have e3 : ys2 = (lqU n (k + 1)).map lqD := by
            rw [ey2, ey]
            unfold lqU
            rw [List.range_succ, List.flatMap_append, List.map_append, List.flatMap_singleton]
            rfl
          refine ⟨rfl, e3, ?_, _, rfl, c2⟩
          rw [ey2]
          simp
          omega
      · rintro ys2 _ ⟨e2, l2, s2, rfl, c2⟩
        exact Y_gNx ⟨rfl, k + 1, _, _, rfl, by omega, e2, l2, rfl, rfl, c2⟩
    · rintro ys ρ ⟨k, s1, s2, er, kl, ey, yl, rfl, c1, c2⟩
      have := rngc_ge er
      have ek : k = (n - 1).toNat := by omega
      subst ek
      exact ⟨rfl, ey, _, _, rfl⟩
  · rintro _ _ ⟨rfl, s1, s2, rfl⟩
    exact Y_gNx ⟨rfl, by walk_at "ys"; exact h⟩

def dueR (i : Nat) : List (Int × Int) := (List.range (i + 1)).map fun (j : Nat) => (1 + (j : Int), 2 + (i : Int))
def dueU (m : Nat) : List (Int × Int) := (List.range m).flatMap dueR
theorem due_succ (i : Nat) : dueU (i + 1) = dueU i ++ dueR i := by
  unfold dueU
  rw [List.range_succ, List.flatMap_append, List.flatMap_singleton]
theorem due_sorted : ∀ n : Fin 12, srtP (dueU n.val) = lqU ((n.val : Int) + 1) n.val := by decide +kernel
theorem lq_bound : ∀ n : Fin 12, ∀ k ∈ dueU n.val, (0 ≤ k.1 ∧ k.1 < 1000) ∧ 0 ≤ k.2 ∧ k.2 < 1000 := by decide +kernel
theorem lq_len : ∀ n : Fin 12, (lqU ((n.val : Int) + 1) n.val).length ≤ 66 := by decide +kernel
theorem due_len (m : Nat) (h : m ≤ 11) : (dueU m).length ≤ 66 := by
  have : ∀ n : Fin 12, (dueU n.val).length ≤ 66 := by decide +kernel
  exact this ⟨m, by omega⟩
theorem prs_map (ks : List (Int × Int)) : PL.prs (ks.map pD) = some ks := by
  induction ks with
  | nil => rfl
  | cons k t ih =>
    show (PL.prs (t.map pD)).map (k :: ·) = _
    rw [ih]
    rfl
theorem srtL_due (n : Nat) (h : n < 12) : gSrtL [.lst ((dueU n).map pD)] = some (.lst ((lqU ((n : Int) + 1) n).map pD)) := by
  unfold gSrtL
  dsimp only
  rw [prs_map]
  have e := due_sorted ⟨n, h⟩
  dsimp only
  rw [if_pos (lq_bound ⟨n, h⟩), show srtP (dueU n) = _ from e]
theorem y_yields (n : Int) (n1 : 1 ≤ n) (n2 : n ≤ 12) {K : Rv → List Sl → Prop} (h : K (.d (.bl true)) [.dat (.int n)]) : Y G_l_yields [.dat (.int n)] K NX := by
  obtain ⟨m, rfl⟩ : ∃ m : Nat, n = (m : Int) + 1 := ⟨(n - 1).toNat, by omega⟩
  have m2 : m < 12 := by omega
  have ll : (lqU ((m : Int) + 1) m).length ≤ 66 := lq_len ⟨m, m2⟩
  unfold G_l_yields B_l_yields
  rw [Y_run0]
  show Y _ [_, .un, .un, .un, .un, .un] _ _
  refine Y_cut (J := fun ρ => ρ = [.dat (.int ((m : Int) + 1)), .cel .own (.lst []), .un, .un, .un, .un]) ?_ ?_
  · walk_at "ys"
  rintro _ rfl
  refine Y_cut (J := fun ρ => ∃ s2 s3, ρ = [.dat (.int ((m : Int) + 1)), .cel .own (.lst ((dueU m).map pD)), s2, s3, .un, .un]) ?_ ?_
  · walk_at "ys"
    refine ⟨by omega, ?_⟩
    refine Y_loop (I := fun r ρ => ∃ (i : Nat) (s2 s3 : Sl), r = (rngD 2 m).drop i ∧ i ≤ m ∧ ρ = [.dat (.int ((m : Int) + 1)), .cel .own (.lst ((dueU i).map pD)), s2, s3, .un, .un] ∧ canSet s2 = true ∧ canSet s3 = true) ?_ (fun x r ρ => ?_) (fun ρ => ?_)
    · exact ⟨0, .un, .un, by rw [show ((m : Int) + 1 + 1 - 2).toNat = m by omega]; rfl, by omega, rfl, rfl, rfl⟩
    · rintro ⟨i, s2, s3, er, il, rfl, c2, c3⟩
      obtain ⟨hi, rfl, rfl⟩ := rngc_lt er
      walk_at "ys"
      refine ⟨c2, by omega, ?_⟩
      refine Y_loop (I := fun r ρ => ∃ (j : Nat) (s3 : Sl), r = (rngD 1 (i + 1)).drop j ∧ j ≤ i + 1 ∧ ρ = [.dat (.int ((m : Int) + 1)), .cel .own (.lst ((dueU i ++ (List.range j).map fun (j : Nat) => (1 + (j : Int), 2 + (i : Int))).map pD)), .dat (.int (2 + i)), s3, .un, .un] ∧ canSet s3 = true) ?_ (fun x r ρ => ?_) (fun ρ => ?_)
      · exact ⟨0, s3, by rw [show (2 + (i : Int) - 1).toNat = i + 1 by omega]; rfl, by omega, by simp, c3⟩
      · rintro ⟨j, s3, er, jl, rfl, c3⟩
        obtain ⟨hj, rfl, rfl⟩ := rngc_lt er
        have dl := due_len i (by omega)
        walk_at "ys"
        refine ⟨c3, ?_, j + 1, .dat (.int (1 + j)), rfl, by omega, ?_⟩
        · simp
          omega
        · refine ⟨?_, rfl⟩
          rw [List.range_succ]
          simp [pD]
      · rintro ⟨j, s3, er, jl, rfl, c3⟩
        have := rngc_ge er
        have ej : j = i + 1 := by omega
        subst ej
        walk_at "ys"
        refine ⟨i + 1, .dat (.int (2 + i)), s3, rfl, by omega, ?_, rfl, c3⟩
        rw [due_succ]
        rfl
    · rintro ⟨i, s2, s3, er, il, rfl, c2, c3⟩
      have := rngc_ge er
      have ei : i = m := by omega
      subst ei
      walk_at "ys"
      exact ⟨_, _, rfl⟩
  rintro _ ⟨s2, s3, rfl⟩
  refine Y_cut (J := fun ρ => ρ = [.dat (.int ((m : Int) + 1)), .cel .own (.lst ((lqU ((m : Int) + 1) m).map pD)), s2, s3, .un, .un]) ?_ ?_
  · walk_at "ys"
    rw [srtL_due m m2]
    walk_at "ys"
  rintro _ rfl
  refine Y_cut (J := fun ρ => ρ = [.dat (.int ((m : Int) + 1)), .cel .own (.lst ((lqU ((m : Int) + 1) m).map pD)), s2, s3, .dat (.lst ((lqU ((m : Int) + 1) m).map lqD)), .un]) ?_ ?_
  · walk_at "ys"
    refine y_lacquers _ (by omega) (by omega) ?_
    rw [show ((m : Int) + 1 - 1).toNat = m by omega]
    walk_at "ys"
  rintro _ rfl
  walk_at "ys"
  rw [if_neg (by simp)]
  have lb : ∀ (i : Nat) (hi : i < (lqU ((m : Int) + 1) m).length), True := fun _ _ => trivial
  refine ⟨by omega, ?_⟩
  refine Y_loop (I := fun r ρ => ∃ (i : Nat) (s5 : Sl), r = (rngD 0 (lqU ((m : Int) + 1) m).length).drop i ∧ ρ = [.dat (.int ((m : Int) + 1)), .dat (.lst ((lqU ((m : Int) + 1) m).map pD)), s2, s3, .dat (.lst ((lqU ((m : Int) + 1) m).map lqD)), s5] ∧ canSet s5 = true) ?_ (fun x r ρ => ?_) (fun ρ => ?_)
  · exact ⟨0, .un, by rw [show (((lqU ((m : Int) + 1) m).length : Nat) : Int).toNat = (lqU ((m : Int) + 1) m).length by omega]; rfl, rfl, rfl⟩
  · rintro ⟨i, s5, er, rfl, c5⟩
    obtain ⟨hi, rfl, rfl⟩ := rngc_lt er
    rw [Int.zero_add]
    have e1 : atI ((lqU ((m : Int) + 1) m).map lqD) (i : Int) = some (.obj .Lacquer [.int (lqU ((m : Int) + 1) m)[i].1, .int (lqU ((m : Int) + 1) m)[i].2]) := at_map (f := lqD) i hi
    have e2 : atI ((lqU ((m : Int) + 1) m).map pD) (i : Int) = some (.tup [.int (lqU ((m : Int) + 1) m)[i].1, .int (lqU ((m : Int) + 1) m)[i].2]) := at_map (f := pD) i hi
    walk_at "ys"
    refine ⟨c5, ?_⟩
    refine ⟨_, e1, _, e2, _, rfl, _, e2, _, rfl, ?_⟩
    refine y_numbers _ _ ?_
    walk_at "ys"
    exact ⟨i + 1, _, rfl, rfl, rfl⟩
  · rintro ⟨i, s5, er, rfl, c5⟩
    walk_at "ys"
    exact h

theorem y_law (ns : List Int) {K : Rv → List Sl → Prop} (h : ∀ ρ, K (.d (.bl true)) ρ) : Y G_l_law [.dat (.sq (ns.map D.int))] K NX := by
  unfold G_l_law B_l_law
  rw [Y_run0]
  show Y _ [_, .un, .un, .un, .un, .un, .un, .un, .un, .un, .un, .un] _ _
  refine Y_cut (J := fun ρ => ∃ x y z : Int, ρ = [.dat (.sq (ns.map D.int)), .cel .own (.lst [.int x, .int y, .int z]), .un, .un, .un, .un, .un, .un, .un, .un, .un, .un]) ?_ ?_
  · walk_at "ys"
    refine y_cell ns 0 (by omega) fun c => ?_
    walk_at "ys"
    refine y_pool c fun x y z => ?_
    walk_at "ys"
    exact ⟨_, _, _, rfl⟩
  rintro _ ⟨x, y, z, rfl⟩
  refine Y_cut (J := fun ρ => ∃ (a b : Int) (s3 : Sl) (x y z : Int), ((Sm a ∧ Sm b) ∧ canSet s3 = true) ∧ ρ = [.dat (.sq (ns.map D.int)), .cel .own (.lst [.int x, .int y, .int z]), .dat (Pr a b), s3, .un, .un, .un, .un, .un, .un, .un, .un]) ?_ ?_
  · walk_at "ys"
    refine y_take _ _ _ _ (by omega) (by omega) fun d1 x1 y1 z1 e1 e2 => ?_
    walk_at "ys"
    split
    · refine y_ab _ _ _ 12 (by omega) (by omega) fun a b x2 y2 z2 a1 a2 a3 => ?_
      walk_at "ys"
      exact ⟨a, b, _, _, _, _, ⟨⟨⟨by omega, by omega⟩, ⟨by omega, by omega⟩⟩, rfl⟩, rfl⟩
    · refine y_any _ _ _ fun a x2 y2 z2 ha => ?_
      walk_at "ys"
      refine y_any _ _ _ fun b x3 y3 z3 hb => ?_
      walk_at "ys"
      exact ⟨a, b, _, _, _, _, ⟨⟨ha, hb⟩, rfl⟩, rfl⟩
  rintro _ ⟨a, b, s3, x, y, z, ⟨⟨ha, hb⟩, c3⟩, rfl⟩
  refine Y_cut (J := fun ρ => ∃ x y z : Int, ρ = [.dat (.sq (ns.map D.int)), .cel .own (.lst [.int x, .int y, .int z]), .dat (Pr a b), s3, .un, .un, .un, .un, .un, .un, .un, .un]) ?_ ?_
  · walk_at "ys"
    refine y_cell ns 1 (by omega) fun c => ?_
    walk_at "ys"
    refine y_pool c fun x y z => ?_
    walk_at "ys"
    exact ⟨_, _, _, rfl⟩
  rintro _ ⟨x, y, z, rfl⟩
  refine Y_cut (J := fun ρ => ∃ c d x y z : Int, (Ok c d) ∧ ρ = [.dat (.sq (ns.map D.int)), .cel .own (.lst [.int x, .int y, .int z]), .dat (Pr a b), s3, .dat (Pr c d), .un, .un, .un, .un, .un, .un, .un]) ?_ ?_
  · walk_at "ys"
    refine y_ab _ _ _ 12 (by omega) (by omega) fun a b x2 y2 z2 a1 a2 a3 => ?_
    walk_at "ys"
    exact ⟨a, b, _, _, _, ⟨a1, a2, a3⟩, rfl⟩
  rintro _ ⟨c, d, x, y, z, ho, rfl⟩
  refine Y_cut (J := fun ρ => ∃ w g x y z : Int, (0 ≤ w ∧ 0 ≤ g) ∧ ρ = [.dat (.sq (ns.map D.int)), .cel .own (.lst [.int x, .int y, .int z]), .dat (Pr a b), s3, .dat (Pr c d), .dat (.int w), .dat (.int g), .un, .un, .un, .un, .un]) ?_ ?_
  · walk_at "ys"
    refine y_take _ _ _ _ (by omega) (by omega) fun d1 x1 y1 z1 e1 e2 => ?_
    walk_at "ys"
    split
    · refine y_take _ _ _ _ (by omega) (by omega) fun d1 x1 y1 z1 e1 e2 => ?_
      walk_at "ys"
      refine y_take _ _ _ _ (by omega) (by omega) fun d2 x1 y1 z1 e3 e4 => ?_
      walk_at "ys"
      exact ⟨_, _, _, _, _, ⟨by omega, by omega⟩, rfl⟩
    · refine y_take _ _ _ _ (by omega) (by omega) fun d1 x1 y1 z1 e1 e2 => ?_
      walk_at "ys"
      refine y_take _ _ _ _ (by omega) (by omega) fun d2 x1 y1 z1 e3 e4 => ?_
      walk_at "ys"
      exact ⟨_, _, _, _, _, ⟨by omega, by omega⟩, rfl⟩
  rintro _ ⟨w, g, x, y, z, ⟨w0, g0⟩, rfl⟩
  refine Y_cut (J := fun ρ => ∃ w g x y z : Int, (0 ≤ w ∧ 0 ≤ g) ∧ ρ = [.dat (.sq (ns.map D.int)), .cel .own (.lst [.int x, .int y, .int z]), .dat (Pr a b), s3, .dat (Pr c d), .dat (.int w), .dat (.int g), .un, .un, .un, .un, .un]) ?_ ?_
  · walk_at "ys"
    refine y_take _ _ _ _ (by omega) (by omega) fun d1 x1 y1 z1 e1 e2 => ?_
    walk_at "ys"
    split
    · refine y_take _ _ _ _ (by omega) (by omega) fun d1 x1 y1 z1 e1 e2 => ?_
      walk_at "ys"
      refine y_take _ _ _ _ (by omega) (by omega) fun d2 x1 y1 z1 e3 e4 => ?_
      walk_at "ys"
      exact ⟨_, _, _, _, _, ⟨by omega, by omega⟩, rfl⟩
    · exact ⟨_, _, _, _, _, ⟨w0, g0⟩, rfl⟩
  rintro _ ⟨w, g, x, y, z, ⟨w0, g0⟩, rfl⟩
  refine Y_cut (J := fun ρ => ∃ l x y z : Int, (0 ≤ l ∧ l < 20) ∧ ρ = [.dat (.sq (ns.map D.int)), .cel .own (.lst [.int x, .int y, .int z]), .dat (Pr a b), s3, .dat (Pr c d), .dat (.int w), .dat (.int g), .dat (.int l), .un, .un, .un, .un]) ?_ ?_
  · walk_at "ys"
    refine y_take _ _ _ _ (by omega) (by omega) fun d1 x1 y1 z1 e1 e2 => ?_
    walk_at "ys"
    exact ⟨_, _, _, _, ⟨by omega, by omega⟩, rfl⟩
  rintro _ ⟨l, x, y, z, ⟨l0, l1⟩, rfl⟩
  refine Y_cut (J := fun ρ => ∃ f x y z : Int, ρ = [.dat (.sq (ns.map D.int)), .cel .own (.lst [.int x, .int y, .int z]), .dat (Pr a b), s3, .dat (Pr c d), .dat (.int w), .dat (.int g), .dat (.int l), .dat (.int f), .un, .un, .un]) ?_ ?_
  · walk_at "ys"
    refine y_any _ _ _ fun a x2 y2 z2 ha => ?_
    walk_at "ys"
    exact ⟨_, _, _, _, rfl⟩
  rintro _ ⟨f, x, y, z, rfl⟩
  refine Y_cut (J := fun ρ => ∃ m x y z : Int, (1 ≤ m ∧ m ≤ 12) ∧ ρ = [.dat (.sq (ns.map D.int)), .cel .own (.lst [.int x, .int y, .int z]), .dat (Pr a b), s3, .dat (Pr c d), .dat (.int w), .dat (.int g), .dat (.int l), .dat (.int f), .dat (.int m), .un, .un]) ?_ ?_
  · walk_at "ys"
    refine y_take _ _ _ _ (by omega) (by omega) fun d1 x1 y1 z1 e1 e2 => ?_
    walk_at "ys"
    exact ⟨_, _, _, _, ⟨by omega, by omega⟩, rfl⟩
  rintro _ ⟨m, x, y, z, ⟨m1, m2⟩, rfl⟩
  refine Y_cut (J := fun ρ => ρ = [.dat (.sq (ns.map D.int)), .cel .own (.lst [.int x, .int y, .int z]), .dat (Pr a b), s3, .dat (Pr c d), .dat (.int w), .dat (.int g), .dat (.int l), .dat (.int f), .dat (.int m), .dat (La c d), .un]) ?_ ?_
  · walk_at "ys"
    refine y_made c d ho ?_
    walk_at "ys"
  rintro _ rfl
  refine Y_cut (J := fun ρ => ρ = [.dat (.sq (ns.map D.int)), .cel .own (.lst [.int x, .int y, .int z]), .dat (Pr a b), s3, .dat (Pr c d), .dat (.int w), .dat (.int g), .dat (.int l), .dat (.int f), .dat (.int m), .dat (La c d), .un]) ?_ ?_
  · walk_at "ys"
  rintro _ rfl
  refine Y_cut (J := fun ρ => ∃ s11 : Sl, ρ = [.dat (.sq (ns.map D.int)), .cel .own (.lst [.int x, .int y, .int z]), .dat (Pr a b), s3, .dat (Pr c d), .dat (.int w), .dat (.int g), .dat (.int l), .dat (.int f), .dat (.int m), .dat (La c d), s11]) ?_ ?_
  · have e2 : D.eq? (Pr a b) (Pr c d) = some (decide (a = c ∧ b = d)) := qe_t2
    walk_at "ys"
    by_cases k : Ok a b
    · obtain ⟨k1, k2, k3⟩ := id k
      rw [if_pos k1, if_pos k2, if_pos k3]
      refine y_made a b k ?_
      walk_at "ys"
      refine y_whole a b w g l f k w0 g0 l0 ?_
      walk_at "ys"
      rw [e2]
      refine ⟨_, rfl, ?_⟩
      refine y_equals a b c d _ rfl ?_
      walk_at "ys"
      rw [e2]
      refine ⟨_, rfl, ?_⟩
      refine y_equals c d a b _ (decide_eq_decide.mpr ⟨fun e => ⟨e.1.symm, e.2.symm⟩, fun e => ⟨e.1.symm, e.2.symm⟩⟩) ?_
      walk_at "ys"
      exact ⟨_, rfl⟩
    · by_cases k1 : 1 ≤ a
      · rw [if_pos k1]
        by_cases k2 : a < b
        · rw [if_pos k2, if_neg (fun k3 => k ⟨k1, k2, k3⟩)]
          refine y_refuses a b ha hb k ?_
          walk_at "ys"
          exact ⟨_, rfl⟩
        · rw [if_neg k2]
          refine y_refuses a b ha hb k ?_
          walk_at "ys"
          exact ⟨_, rfl⟩
      · rw [if_neg k1]
        refine y_refuses a b ha hb k ?_
        walk_at "ys"
        exact ⟨_, rfl⟩
  rintro _ ⟨s11, rfl⟩
  obtain ⟨o1, o2, o3⟩ := id ho
  have sm : ∀ {i : Int}, -1000 < i → i < 1000 → Sm i := fun l1 l2 => ⟨by omega, by omega⟩
  refine Y_cut (J := fun ρ => ρ = [.dat (.sq (ns.map D.int)), .cel .own (.lst [.int x, .int y, .int z]), .dat (Pr a b), s3, .dat (Pr c d), .dat (.int w), .dat (.int g), .dat (.int l), .dat (.int f), .dat (.int m), .dat (La c d), s11]) ?_ ?_
  · walk_at "ys"
    refine y_whole c d w g l f ho w0 g0 l0 ?_
    walk_at "ys"
  rintro _ rfl
  refine Y_cut (J := fun ρ => ρ = [.dat (.sq (ns.map D.int)), .cel .own (.lst [.int x, .int y, .int z]), .dat (Pr a b), s3, .dat (Pr c d), .dat (.int w), .dat (.int g), .dat (.int l), .dat (.int f), .dat (.int m), .dat (La c d), s11]) ?_ ?_
  · walk_at "ys"
    refine y_refuses c c (sm (by omega) (by omega)) (sm (by omega) (by omega)) (fun k => by obtain ⟨k1, k2, k3⟩ := k; omega) ?_
    walk_at "ys"
    refine y_refuses 0 d (sm (by omega) (by omega)) (sm (by omega) (by omega)) (fun k => by obtain ⟨k1, k2, k3⟩ := k; omega) ?_
    walk_at "ys"
  rintro _ rfl
  refine Y_cut (J := fun ρ => ρ = [.dat (.sq (ns.map D.int)), .cel .own (.lst [.int x, .int y, .int z]), .dat (Pr a b), s3, .dat (Pr c d), .dat (.int w), .dat (.int g), .dat (.int l), .dat (.int f), .dat (.int m), .dat (La c d), s11]) ?_ ?_
  · walk_at "ys"
    refine y_refuses c (13 + l) (sm (by omega) (by omega)) (sm (by omega) (by omega)) (fun k => by obtain ⟨k1, k2, k3⟩ := k; omega) ?_
    walk_at "ys"
    refine y_refuses d c (sm (by omega) (by omega)) (sm (by omega) (by omega)) (fun k => by obtain ⟨k1, k2, k3⟩ := k; omega) ?_
    walk_at "ys"
  rintro _ rfl
  refine Y_cut (J := fun ρ => ρ = [.dat (.sq (ns.map D.int)), .cel .own (.lst [.int x, .int y, .int z]), .dat (Pr a b), s3, .dat (Pr c d), .dat (.int w), .dat (.int g), .dat (.int l), .dat (.int f), .dat (.int m), .dat (La c d), s11]) ?_ ?_
  · walk_at "ys"
    refine y_int _ ?_
    walk_at "ys"
    simp
  rintro _ rfl
  walk_at "ys"
  refine y_yields m m1 m2 ?_
  walk_at "ys"
  refine y_yields (13 - m) (by omega) (by omega) ?_
  walk_at "ys"
  refine y_yields m m1 m2 ?_
  walk_at "ys"
  exact h _
theorem law_pure (ns : List Int) (_ : ns.length ≤ 63) : ∃ ρ, G_l_law [.dat (.sq (ns.map D.int))] = some (.ok (.d (.bl true)), ρ) := by
  obtain ⟨r, ρ, e, k⟩ := (y_law ns (K := fun r _ => r = .d (.bl true)) fun _ => rfl).mk
  subst k
  exact ⟨ρ, e⟩

end DP
namespace DP
open PySem PySem.Spec PyProof.Rows L2 PL
set_option maxHeartbeats 3900000
set_option exponentiation.threshold 20000
section
variable {P : Program} {w : World} {K : PySem.W.Frag} {mg : Str → Option Value} {base : Heap} {ad : Cl → Addr}
theorem ok_l_take {f : Addr} {fd : FuncData} (F : L2.Fun K "_law_take" "_law_take" s_l_take f fd)
    (z_int : mg "int" = none) :
    FnOk P w K mg base CX0 1 f fd ["pool", "size"] (spP K ad 2 G_l_take) :=
  ok0 (N := N_l_take) (s := B_l_take) F sc_l_take rfl rfl fun cdv A outer s H E hr =>
    (ss_c (s_setI 0 (pv 0) (pp_c pe_int) (pp_2 op_add o_add (look_v 0 (pp_ix rfl (pp_v 0 (pv 0)) (pp_c pe_int) (fun _ _ => rfl))) (pp_c pe_int)))
    (ss_c (s_if (pp_tcmp op_gt o_gt (look_v 0 (pp_ix rfl (pp_v 0 (pv 0)) (pp_c pe_int) (fun _ _ => rfl))) (pp_c pe_int) (nomark _))
    (ss_c (s_set (i := 2) sc_l_take.nd rfl (by first | exact Or.inl rfl | exact Or.inr rfl) (pp_2 op_mod o_mod (pp_T ob_int OW.c_int1 (by rfl) z_int (by decide +kernel) (pd_c (look_v 0 (pp_ix rfl (pp_v 0 (pv 0)) (pp_c pe_int) (fun _ _ => rfl))) pd_n)) (pp_v 1 (pv 1))))
    (ss_c (s_setI 0 (pv 0) (pp_c pe_int) (pp_2 op_divB o_div (look_v 0 (pp_ix rfl (pp_v 0 (pv 0)) (pp_c pe_int) (fun _ _ => rfl))) (pp_v 1 (pv 1))))
    (ss_1 (s_ret (pp_v 2 (pv 2))))))
    ss_n)
    (ss_c (s_set (i := 3) sc_l_take.nd rfl (by first | exact Or.inl rfl | exact Or.inr rfl) (pp_2 op_mod o_mod (pp_T ob_int OW.c_int1 (by rfl) z_int (by decide +kernel) (pd_c (pp_2 op_add o_add (pp_2 op_add o_add (look_v 0 (pp_ix rfl (pp_v 0 (pv 0)) (pp_c pe_int) (fun _ _ => rfl))) (pp_2 op_mulB o_mul (pp_c pe_int) (look_v 0 (pp_ix rfl (pp_v 0 (pv 0)) (pp_c pe_int) (fun _ _ => rfl))))) (pp_c pe_int)) pd_n)) (pp_c pe_int)))
    (ss_c (s_set (i := 3) sc_l_take.nd rfl (by first | exact Or.inl rfl | exact Or.inr rfl) (pp_2 op_mod o_mod (pp_T ob_int OW.c_int1 (by rfl) z_int (by decide +kernel) (pd_c (pp_2 op_add o_add (pp_2 op_add o_add (pp_2 op_mulB o_mul (pp_v 3 (pv 3)) (pp_v 3 (pv 3))) (pp_2 op_mulB o_mul (pp_c pe_int) (look_v 0 (pp_ix rfl (pp_v 0 (pv 0)) (pp_c pe_int) (fun _ _ => rfl))))) (pp_c pe_int)) pd_n)) (pp_c pe_int)))
    (ss_c (s_set (i := 3) sc_l_take.nd rfl (by first | exact Or.inl rfl | exact Or.inr rfl) (pp_2 op_mod o_mod (pp_T ob_int OW.c_int1 (by rfl) z_int (by decide +kernel) (pd_c (pp_2 op_add o_add (pp_2 op_add o_add (pp_2 op_mulB o_mul (pp_v 3 (pv 3)) (pp_v 3 (pv 3))) (pp_2 op_mulB o_mul (pp_c pe_int) (look_v 0 (pp_ix rfl (pp_v 0 (pv 0)) (pp_c pe_int) (fun _ _ => rfl))))) (pp_c pe_int)) pd_n)) (pp_c pe_int)))
    (ss_1 (s_ret (pp_2 op_mod o_mod (pp_T ob_int OW.c_int1 (by rfl) z_int (by decide +kernel) (pd_c (pp_2 op_divB o_div (pp_v 3 (pv 3)) (pp_c pe_int)) pd_n)) (pp_v 1 (pv 1))))))))))

theorem ok_l_ab {f : Addr} {fd : FuncData} (F : L2.Fun K "_law_ab" "_law_ab" s_l_ab f fd)
    {f_l_take : Addr} {fd_l_take : FuncData} (O_l_take : FnOk P w K mg base CX0 1 f_l_take fd_l_take ["pool", "size"] (spP K ad 2 G_l_take)) (m_l_take : mg "_law_take" = some (.ref f_l_take)) (k_l_take : PySem.W.keepIn K (.ref f_l_take) = true) (b_l_take : Binds K fd_l_take ["pool", "size"] []) :
    FnOk P w K mg base CX0 2 f fd ["pool", "most"] (spP K ad 2 G_l_ab) :=
  ok0 (N := N_l_ab) (s := B_l_ab) F sc_l_ab rfl rfl fun cdv A outer s H E hr =>
    (ss_c (s_set (i := 2) sc_l_ab.nd rfl (by first | exact Or.inl rfl | exact Or.inr rfl) (pp_2 op_add o_add (pp_c pe_int) (pp_call O_l_take (hr.mono (by decide)) (by rfl) m_l_take k_l_take b_l_take .nil pass0 (pq_k 0 (pv 0) (pq_c (pp_2 op_sub o_sub (pp_v 1 (pv 1)) (pp_c pe_int)) pq_n)) .nil)))
    (ss_1 (s_ret (pp_tup (pd_c (pp_v 2 (pv 2)) (pd_c (pp_2 op_add o_add (pp_2 op_add o_add (pp_v 2 (pv 2)) (pp_c pe_int)) (pp_call O_l_take (hr.mono (by decide)) (by rfl) m_l_take k_l_take b_l_take .nil pass0 (pq_k 0 (pv 0) (pq_c (pp_2 op_sub o_sub (pp_v 1 (pv 1)) (pp_v 2 (pv 2))) pq_n)) .nil)) pd_n))))))

theorem ok_l_far {f : Addr} {fd : FuncData} (F : L2.Fun K "_law_far" "_law_far" s_l_far f fd)
    (z_range : mg "range" = none)
    {f_l_take : Addr} {fd_l_take : FuncData} (O_l_take : FnOk P w K mg base CX0 1 f_l_take fd_l_take ["pool", "size"] (spP K ad 2 G_l_take)) (m_l_take : mg "_law_take" = some (.ref f_l_take)) (k_l_take : PySem.W.keepIn K (.ref f_l_take) = true) (b_l_take : Binds K fd_l_take ["pool", "size"] []) :
    FnOk P w K mg base CX0 2 f fd ["pool"] (spP K ad 1 G_l_far) :=
  ok0 (N := N_l_far) (s := B_l_far) F sc_l_far rfl rfl fun cdv A outer s H E hr =>
    (ss_c (s_set (i := 1) sc_l_far.nd rfl (by first | exact Or.inl rfl | exact Or.inr rfl) (pp_c pe_int))
    (ss_c (s_for PassesOwn.never rfl (pi_r1 (by rfl) z_range (pp_c pe_int)) (g_n (i := 2) sc_l_far.nd rfl (by first | exact Or.inl rfl | exact Or.inr rfl))
    (ss_1 (s_set (i := 1) sc_l_far.nd rfl (by first | exact Or.inl rfl | exact Or.inr rfl) (pp_2 op_add o_add (pp_2 op_mulB o_mul (pp_v 1 (pv 1)) (pp_c pe_int)) (pp_call O_l_take (hr.mono (by decide)) (by rfl) m_l_take k_l_take b_l_take .nil pass0 (pq_k 0 (pv 0) (pq_c (pp_c pe_int) pq_n)) .nil)))))
    (ss_c (s_if (pp_tcmp (op_eqB hr.units) o_eq (pp_call O_l_take (hr.mono (by decide)) (by rfl) m_l_take k_l_take b_l_take .nil pass0 (pq_k 0 (pv 0) (pq_c (pp_c pe_int) pq_n)) .nil) (pp_c pe_int) (nomark _))
    (ss_1 (s_ret (pp_1 un_neg o_neg (pp_v 1 (pv 1)))))
    ss_n)
    (ss_1 (s_ret (pp_v 1 (pv 1)))))))

theorem ok_l_any {f : Addr} {fd : FuncData} (F : L2.Fun K "_law_any" "_law_any" s_l_any f fd)
    {f_l_far : Addr} {fd_l_far : FuncData} (O_l_far : FnOk P w K mg base CX0 2 f_l_far fd_l_far ["pool"] (spP K ad 1 G_l_far)) (m_l_far : mg "_law_far" = some (.ref f_l_far)) (k_l_far : PySem.W.keepIn K (.ref f_l_far) = true) (b_l_far : Binds K fd_l_far ["pool"] [])
    {f_l_take : Addr} {fd_l_take : FuncData} (O_l_take : FnOk P w K mg base CX0 1 f_l_take fd_l_take ["pool", "size"] (spP K ad 2 G_l_take)) (m_l_take : mg "_law_take" = some (.ref f_l_take)) (k_l_take : PySem.W.keepIn K (.ref f_l_take) = true) (b_l_take : Binds K fd_l_take ["pool", "size"] []) :
    FnOk P w K mg base CX0 3 f fd ["pool"] (spP K ad 1 G_l_any) :=
  ok0 (N := N_l_any) (s := B_l_any) F sc_l_any rfl rfl fun cdv A outer s H E hr =>
    (ss_c (s_if (pp_tcmp (op_eqB hr.units) o_eq (pp_call O_l_take (hr.mono (by decide)) (by rfl) m_l_take k_l_take b_l_take .nil pass0 (pq_k 0 (pv 0) (pq_c (pp_c pe_int) pq_n)) .nil) (pp_c pe_int) (nomark _))
    (ss_1 (s_ret (pp_call O_l_far (hr.mono (by decide)) (by rfl) m_l_far k_l_far b_l_far .nil pass0 (pq_k 0 (pv 0) pq_n) .nil)))
    ss_n)
    (ss_1 (s_ret (pp_2 op_sub o_sub (pp_call O_l_take (hr.mono (by decide)) (by rfl) m_l_take k_l_take b_l_take .nil pass0 (pq_k 0 (pv 0) (pq_c (pp_c pe_int) pq_n)) .nil) (pp_c pe_int)))))

theorem ok_l_cell {f : Addr} {fd : FuncData} (F : L2.Fun K "_law_cell" "_law_cell" s_l_cell f fd)
    (z_len : mg "len" = none) :
    FnOk P w K mg base CX0 1 f fd ["script", "k"] (spP K ad 2 G_l_cell) :=
  ok0 (N := N_l_cell) (s := B_l_cell) F sc_l_cell rfl rfl fun cdv A outer s H E hr =>
    (ss_c (s_if (pp_tcmp op_lt o_lt (pp_v 1 (pv 1)) (pp_B ob_len (c_lenA rfl) (by rfl) z_len (by decide +kernel) (pd_c (pp_v 0 (pv 0)) pd_n)) (nomark _))
    (ss_1 (s_ret (pp_ix rfl (pp_v 0 (pv 0)) (pp_v 1 (pv 1)) (fun _ _ => rfl))))
    ss_n)
    (ss_1 (s_ret (pp_2 op_add o_add (pp_2 op_mulB o_mul (pp_c pe_int) (pp_v 1 (pv 1))) (pp_c pe_int)))))

theorem ok_Lacquer_eq {f : Addr} {fd : FuncData} (F : L2.Fun K "__eq__" "Lacquer.__eq__" s_Lacquer_eq f fd)
    (T_Lacquer : S_Lacquer K mg (ad .Lacquer))
    (z_isinstance : mg "isinstance" = none)
    (kit_Lacquer_Lacquer : PySem.W.kitOne K (.ref (ad .Lacquer)) (.ref (ad .Lacquer)) = some true)
    (kit_NoneType_Lacquer : PySem.W.kitOne K (.type "NoneType") (.ref (ad .Lacquer)) = some false) :
    FnOk P w K mg base CX0 1 f fd ["self", "other"] (spP K ad 2 G_Lacquer_eq) :=
  ok0 (N := N_Lacquer_eq) (s := B_Lacquer_eq) F sc_Lacquer_eq rfl rfl fun cdv A outer s H E hr =>
    (ss_1 (s_ret (pp_van (pp_isi rfl (.o kit_Lacquer_Lacquer T_Lacquer.ct (.b kit_NoneType_Lacquer .nil)) (.own _) (by rfl) z_isinstance (pp_v 1 (pv 1)) (C8.pe_gc (v := .ref (ad .Lacquer)) (by rfl) ⟨_, T_Lacquer.mg, rfl⟩)) (pp_van (pp_cmp (op_eqB hr.units) o_eq (pp_fld .Lacquer 0 rfl T_Lacquer.cl T_Lacquer.n_a (pp_v 0 (pv 0))) (pp_fld .Lacquer 0 rfl T_Lacquer.cl T_Lacquer.n_a (pp_v 1 (pv 1))) (nomark _)) (pe_one (pp_cmp (op_eqB hr.units) o_eq (pp_fld .Lacquer 1 rfl T_Lacquer.cl T_Lacquer.n_b (pp_v 0 (pv 0))) (pp_fld .Lacquer 1 rfl T_Lacquer.cl T_Lacquer.n_b (pp_v 1 (pv 1))) (nomark _)))))))

theorem ok_l_equals {f : Addr} {fd : FuncData} (F : L2.Fun K "_law_equals" "_law_equals" s_l_equals f fd)
    (T_Lacquer : S_Lacquer K mg (ad .Lacquer))
    (z_bool : mg "bool" = none)
    (z_isinstance : mg "isinstance" = none)
    (kit_bool_bool : PySem.W.kitOne K (.type "bool") (.type "bool") = some true)
    {f_Lacquer_eq : Addr} {fd_Lacquer_eq : FuncData} (O_Lacquer_eq : FnOk P w K mg base CX0 1 f_Lacquer_eq fd_Lacquer_eq ["self", "other"] (spP K ad 2 G_Lacquer_eq)) (b_Lacquer_eq : Binds K fd_Lacquer_eq ["self", "other"] []) (M_Lacquer_eq : Meth K (ad .Lacquer) "__eq__" f_Lacquer_eq) :
    FnOk P w K mg base CX0 2 f fd ["one", "other", "due"] (spP K ad 3 G_l_equals) :=
  ok0 (N := N_l_equals) (s := B_l_equals) F sc_l_equals rfl rfl fun cdv A outer s H E hr =>
    (ss_c (s_set (i := 3) sc_l_equals.nd rfl (by first | exact Or.inl rfl | exact Or.inr rfl) (pp_owncmp .Lacquer rfl (fun _ _ => rfl) M_Lacquer_eq T_Lacquer.nf O_Lacquer_eq (hr.mono (by decide)) b_Lacquer_eq pass0 (pp_v 0 (pv 0)) (pp_v 1 (pv 1)) (nomark _)))
    (ss_1 (s_ret (pp_van (pp_isi rfl (.b kit_bool_bool .nil) (.ty _) (by rfl) z_isinstance (pp_v 3 (pv 3)) (pe_bltn (v := .ty "bool") (by rfl) z_bool (by decide +kernel) rfl)) (pe_one (pp_cmp (op_eqB hr.units) o_eq (pp_v 3 (pv 3)) (pp_v 2 (pv 2)) (nomark _)))))))

theorem ok_l_int {f : Addr} {fd : FuncData} (F : L2.Fun K "_law_int" "_law_int" s_l_int f fd)
    (z_bool : mg "bool" = none)
    (z_int : mg "int" = none)
    (z_isinstance : mg "isinstance" = none)
    (kit_int_bool : PySem.W.kitOne K (.type "int") (.type "bool") = some false)
    (kit_int_int : PySem.W.kitOne K (.type "int") (.type "int") = some true) :
    FnOk P w K mg base CX0 1 f fd ["x"] (spP K ad 1 G_l_int) :=
  ok0 (N := N_l_int) (s := B_l_int) F sc_l_int rfl rfl fun cdv A outer s H E hr =>
    (ss_1 (s_ret (pp_van (pp_isi rfl (.b kit_int_int .nil) (.ty _) (by rfl) z_isinstance (pp_v 0 (pv 0)) (pe_bltn (v := .ty "int") (by rfl) z_int (by decide +kernel) rfl)) (pe_one (pp_vno (pp_isi rfl (.b kit_int_bool .nil) (.ty _) (by rfl) z_isinstance (pp_v 0 (pv 0)) (pe_bltn (v := .ty "bool") (by rfl) z_bool (by decide +kernel) rfl)))))))

theorem ok_Lacquer_init {f : Addr} {fd : FuncData} (F : L2.Fun K "__init__" "Lacquer.__init__" s_Lacquer_init f fd)
    (T_BadLacquer : S_BadLacquer K mg (ad .BadLacquer))
    (T_Lacquer : S_Lacquer K mg (ad .Lacquer)) :
    FnOk P w K mg base (L2.CX P w) 1 f fd ["self", "a", "b"] (spP K ad 3 G_Lacquer_init) :=
  okX (N := N_Lacquer_init) (s := B_Lacquer_init) F sc_Lacquer_init rfl rfl fun cdv A outer s H E hr =>
    (ss_c (s_if (pp_tno (pp_tch3 op_le op_lt op_le o_le o_lt o_le (pp_c pe_int) (pp_v 1 (pv 1)) (pp_v 2 (pv 2)) (pp_cval .Lacquer T_Lacquer.mg T_Lacquer.cr T_Lacquer.v_MOST)))
    (ss_1 (s_raise1 .BadLacquer rfl (takes_of rfl rfl rfl rfl) PySem.F.excBase_ValueError T_BadLacquer.x T_BadLacquer.mg T_BadLacquer.kp (raises_own T_BadLacquer.b T_BadLacquer.t) rfl (pp_joined (.cons (pp_c pe_str) (.cons (pp_fmt (pp_v 1 (pv 1))) (.cons (pp_c pe_str) (.cons (pp_fmt (pp_v 2 (pv 2))) .nil)))))))
    ss_n)
    (ss_c (s_fld .Lacquer 0 rfl T_Lacquer.cl T_Lacquer.n_a (pv 0) (pp_v 1 (pv 1)))
    (ss_1 (s_fld .Lacquer 0 rfl T_Lacquer.cl T_Lacquer.n_b (pv 0) (pp_v 2 (pv 2))))))

theorem ok_l_made {f : Addr} {fd : FuncData} (F : L2.Fun K "_law_made" "_law_made" s_l_made f fd)
    (T_BadLacquer : S_BadLacquer K mg (ad .BadLacquer))
    (T_BadNumber : S_BadNumber K mg (ad .BadNumber))
    (T_DampError : S_DampError K mg (ad .DampError))
    (T_Lacquer : S_Lacquer K mg (ad .Lacquer))
    (T_TooLarge : S_TooLarge K mg (ad .TooLarge))
    (xm_BadLacquer_BadLacquer : PySem.W.exmOne K (.ref (ad .BadLacquer)) (.ref (ad .BadLacquer)) = some true)
    (xm_BadNumber_BadLacquer : PySem.W.exmOne K (.ref (ad .BadNumber)) (.ref (ad .BadLacquer)) = some false)
    (xm_DampError_BadLacquer : PySem.W.exmOne K (.ref (ad .DampError)) (.ref (ad .BadLacquer)) = some false)
    (xm_TooLarge_BadLacquer : PySem.W.exmOne K (.ref (ad .TooLarge)) (.ref (ad .BadLacquer)) = some false)
    {f_Lacquer_init : Addr} {fd_Lacquer_init : FuncData} (O_Lacquer_init : FnOk P w K mg base (L2.CX P w) 1 f_Lacquer_init fd_Lacquer_init ["self", "a", "b"] (spP K ad 3 G_Lacquer_init)) (b_Lacquer_init : Binds K fd_Lacquer_init ["self", "a", "b"] []) (I_Lacquer : Mk K (ad .Lacquer) f_Lacquer_init) :
    FnOk P w K mg base CX0 3 f fd ["a", "b"] (spP K ad 2 G_l_made) :=
  ok0 (N := N_l_made) (s := B_l_made) F sc_l_made rfl rfl fun cdv A outer s H E hr =>
    (ss_c (s_set (i := 2) sc_l_made.nd rfl (by first | exact Or.inl rfl | exact Or.inr rfl) (pp_c pe_non))
    (ss_c (s_tryO rfl rfl rfl ⟨rfl, by decide, (.inl T_BadLacquer.mg)⟩ takes0 (.cons xm_DampError_BadLacquer (.cons xm_BadLacquer_BadLacquer (.cons xm_BadNumber_BadLacquer (.cons xm_TooLarge_BadLacquer .nil))))
    (fun W pn xe tk po => (ss_1 (s_set (i := 2) sc_l_made.nd rfl (by first | exact Or.inl rfl | exact Or.inr rfl) (pp_makeS .Lacquer I_Lacquer O_Lacquer_init tk (hr.mono (by decide)) (by rfl) T_Lacquer.mg b_Lacquer_init .nil (pq_c (pp_v 0 (pv 0)) (pq_c (pp_v 1 (pv 1)) pq_n)) .nil))))
    (fun a oe cls d pn hz hf => (ss_1 (s_set (i := 2) sc_l_made.nd rfl (by first | exact Or.inl rfl | exact Or.inr rfl) (pp_c pe_non)))))
    (ss_1 (s_ret (pp_v 2 (pv 2))))))

theorem ok_l_pool {f : Addr} {fd : FuncData} (F : L2.Fun K "_law_pool" "_law_pool" s_l_pool f fd)
    (z_int : mg "int" = none) :
    FnOk P w K mg base CX0 1 f fd ["cell"] (spP K ad 1 G_l_pool) :=
  ok0 (N := N_l_pool) (s := B_l_pool) F sc_l_pool rfl rfl fun cdv A outer s H E hr =>
    (ss_c (s_if (pp_tcmp op_ge o_ge (pp_v 0 (pv 0)) (pp_2 op_pow o_pow (pp_c pe_int) (pp_c pe_int)) (nomark _))
    (ss_1 (s_ret (pp_lst (pd_c (pp_2 op_sub o_sub (pp_v 0 (pv 0)) (pp_2 op_pow o_pow (pp_c pe_int) (pp_c pe_int))) (pd_c (pp_2 op_mod o_mod (pp_T ob_int OW.c_int1 (by rfl) z_int (by decide +kernel) (pd_c (pp_v 0 (pv 0)) pd_n)) (pp_c pe_int)) (pd_c (pp_c pe_int) pd_n))))))
    ss_n)
    (ss_c (s_if (pp_tcmp op_lt o_lt (pp_v 0 (pv 0)) (pp_c pe_int) (nomark _))
    (ss_1 (s_ret (pp_lst (pd_c (pp_c pe_int) (pd_c (pp_2 op_mod o_mod (pp_T ob_int OW.c_int1 (by rfl) z_int (by decide +kernel) (pd_c (pp_2 op_sub o_sub (pp_c pe_int) (pp_2 op_mulB o_mul (pp_c pe_int) (pp_v 0 (pv 0)))) pd_n)) (pp_c pe_int)) (pd_c (pp_c pe_int) pd_n))))))
    ss_n)
    (ss_1 (s_ret (pp_lst (pd_c (pp_c pe_int) (pd_c (pp_2 op_mod o_mod (pp_T ob_int OW.c_int1 (by rfl) z_int (by decide +kernel) (pd_c (pp_2 op_mulB o_mul (pp_c pe_int) (pp_v 0 (pv 0))) pd_n)) (pp_c pe_int)) (pd_c (pp_c pe_int) pd_n))))))))

theorem ok_l_refuses {f : Addr} {fd : FuncData} (F : L2.Fun K "_law_refuses" "_law_refuses" s_l_refuses f fd)
    (T_BadLacquer : S_BadLacquer K mg (ad .BadLacquer))
    (T_BadNumber : S_BadNumber K mg (ad .BadNumber))
    (T_DampError : S_DampError K mg (ad .DampError))
    (T_Lacquer : S_Lacquer K mg (ad .Lacquer))
    (T_TooLarge : S_TooLarge K mg (ad .TooLarge))
    (z_ValueError : mg "ValueError" = none)
    (z_isinstance : mg "isinstance" = none)
    (kit_BadLacquer_BadNumber : PySem.W.kitOne K (.ref (ad .BadLacquer)) (.ref (ad .BadNumber)) = some false)
    (kit_BadLacquer_DampError : PySem.W.kitOne K (.ref (ad .BadLacquer)) (.ref (ad .DampError)) = some true)
    (kit_BadLacquer_TooLarge : PySem.W.kitOne K (.ref (ad .BadLacquer)) (.ref (ad .TooLarge)) = some false)
    (kit_BadLacquer_ValueError : PySem.W.kitOne K (.ref (ad .BadLacquer)) (.type "ValueError") = some true)
    (xm_BadLacquer_BadLacquer : PySem.W.exmOne K (.ref (ad .BadLacquer)) (.ref (ad .BadLacquer)) = some true)
    (xm_BadNumber_BadLacquer : PySem.W.exmOne K (.ref (ad .BadNumber)) (.ref (ad .BadLacquer)) = some false)
    (xm_DampError_BadLacquer : PySem.W.exmOne K (.ref (ad .DampError)) (.ref (ad .BadLacquer)) = some false)
    (xm_TooLarge_BadLacquer : PySem.W.exmOne K (.ref (ad .TooLarge)) (.ref (ad .BadLacquer)) = some false)
    {f_Lacquer_init : Addr} {fd_Lacquer_init : FuncData} (O_Lacquer_init : FnOk P w K mg base (L2.CX P w) 1 f_Lacquer_init fd_Lacquer_init ["self", "a", "b"] (spP K ad 3 G_Lacquer_init)) (b_Lacquer_init : Binds K fd_Lacquer_init ["self", "a", "b"] []) (I_Lacquer : Mk K (ad .Lacquer) f_Lacquer_init) :
    FnOk P w K mg base CX0 3 f fd ["a", "b"] (spP K ad 2 G_l_refuses) :=
  ok0 (N := N_l_refuses) (s := B_l_refuses) F sc_l_refuses rfl rfl fun cdv A outer s H E hr =>
    (ss_c (s_set (i := 2) sc_l_refuses.nd rfl (by first | exact Or.inl rfl | exact Or.inr rfl) (pp_c pe_bl))
    (ss_c (s_set (i := 3) sc_l_refuses.nd rfl (by first | exact Or.inl rfl | exact Or.inr rfl) (pp_c pe_bl))
    (ss_c (s_tryA (i := 4) rfl rfl rfl sc_l_refuses.nd rfl rfl ⟨rfl, by decide, (.inl T_BadLacquer.mg)⟩ takes0 (.cons xm_DampError_BadLacquer (.cons xm_BadLacquer_BadLacquer (.cons xm_BadNumber_BadLacquer (.cons xm_TooLarge_BadLacquer .nil))))
    (fun W pn xe tk po => (ss_1 (s_ex (pp_makeS .Lacquer I_Lacquer O_Lacquer_init tk (hr.mono (by decide)) (by rfl) T_Lacquer.mg b_Lacquer_init .nil (pq_c (pp_v 0 (pv 0)) (pq_c (pp_v 1 (pv 1)) pq_n)) .nil))))
    (fun a oe cls d pn hz hf => (ss_c (s_set (i := 2) sc_l_refuses.nd rfl (by first | exact Or.inl rfl | exact Or.inr rfl) (pp_c pe_bl))
    (ss_c (s_set (i := 3) sc_l_refuses.nd rfl (by first | exact Or.inl rfl | exact Or.inr rfl) (pp_van (pp_isE 4 rfl hz hf (.o kit_BadLacquer_DampError T_BadLacquer.ex .nil) (fun _ h => ClsV.eq ((.own _)) h) (by rfl) z_isinstance (pv 4) (C8.pe_gc (v := .ref (ad .DampError)) (by rfl) ⟨_, T_DampError.mg, rfl⟩)) (pe_one (pp_isE 4 rfl hz hf (.o kit_BadLacquer_ValueError T_BadLacquer.ex .nil) (fun _ h => ClsV.eq ((.ty _)) h) (by rfl) z_isinstance (pv 4) (pe_bltn (v := .ty "ValueError") (by rfl) z_ValueError (by decide +kernel) rfl)))))
    (ss_1 (s_set (i := 3) sc_l_refuses.nd rfl (by first | exact Or.inl rfl | exact Or.inr rfl) (pp_van (pp_v 3 (pv 3)) (pp_van (pp_vno (pp_isE 4 rfl hz hf (.o kit_BadLacquer_TooLarge T_BadLacquer.ex .nil) (fun _ h => ClsV.eq ((.own _)) h) (by rfl) z_isinstance (pv 4) (C8.pe_gc (v := .ref (ad .TooLarge)) (by rfl) ⟨_, T_TooLarge.mg, rfl⟩))) (pe_one (pp_vno (pp_isE 4 rfl hz hf (.o kit_BadLacquer_BadNumber T_BadLacquer.ex .nil) (fun _ h => ClsV.eq ((.own _)) h) (by rfl) z_isinstance (pv 4) (C8.pe_gc (v := .ref (ad .BadNumber)) (by rfl) ⟨_, T_BadNumber.mg, rfl⟩))))))))))))
    (ss_1 (s_ret (pp_van (pp_v 2 (pv 2)) (pe_one (pp_v 3 (pv 3)))))))))

theorem ok_Lacquer_slack {f : Addr} {fd : FuncData} (F : L2.Fun K "slack" "Lacquer.slack" s_Lacquer_slack f fd)
    (T_Lacquer : S_Lacquer K mg (ad .Lacquer)) :
    FnOk P w K mg base CX0 1 f fd ["self"] (spP K ad 1 G_Lacquer_slack) :=
  ok0 (N := N_Lacquer_slack) (s := B_Lacquer_slack) F sc_Lacquer_slack rfl rfl fun cdv A outer s H E hr =>
    (ss_1 (s_ret (pp_2 op_sub o_sub (pp_fld .Lacquer 1 rfl T_Lacquer.cl T_Lacquer.n_b (pp_v 0 (pv 0))) (pp_fld .Lacquer 0 rfl T_Lacquer.cl T_Lacquer.n_a (pp_v 0 (pv 0))))))

theorem ok_f_ceil_div {f : Addr} {fd : FuncData} (F : L2.Fun K "ceil_div" "ceil_div" s_f_ceil_div f fd)
     :
    FnOk P w K mg base CX0 1 f fd ["x", "y"] (spP K ad 2 G_f_ceil_div) :=
  ok0 (N := N_f_ceil_div) (s := B_f_ceil_div) F sc_f_ceil_div rfl rfl fun cdv A outer s H E hr =>
    (ss_1 (s_ret (pp_1 un_neg o_neg (pp_2 op_divB o_div (pp_1 un_neg o_neg (pp_v 0 (pv 0))) (pp_v 1 (pv 1))))))

theorem ok_Lacquer_spans {f : Addr} {fd : FuncData} (F : L2.Fun K "spans" "Lacquer.spans" s_Lacquer_spans f fd)
    (T_BadNumber : S_BadNumber K mg (ad .BadNumber))
    (T_Lacquer : S_Lacquer K mg (ad .Lacquer))
    {f_f_ceil_div : Addr} {fd_f_ceil_div : FuncData} (O_f_ceil_div : FnOk P w K mg base CX0 1 f_f_ceil_div fd_f_ceil_div ["x", "y"] (spP K ad 2 G_f_ceil_div)) (m_f_ceil_div : mg "ceil_div" = some (.ref f_f_ceil_div)) (k_f_ceil_div : PySem.W.keepIn K (.ref f_f_ceil_div) = true) (b_f_ceil_div : Binds K fd_f_ceil_div ["x", "y"] [])
    {f_Lacquer_slack : Addr} {fd_Lacquer_slack : FuncData} (O_Lacquer_slack : FnOk P w K mg base CX0 1 f_Lacquer_slack fd_Lacquer_slack ["self"] (spP K ad 1 G_Lacquer_slack)) (b_Lacquer_slack : Binds K fd_Lacquer_slack ["self"] []) {p_Lacquer_slack : Addr} (P_Lacquer_slack : PropOf K (ad .Lacquer) "slack" p_Lacquer_slack f_Lacquer_slack) :
    FnOk P w K mg base (L2.CX P w) 3 f fd ["self", "w"] (spP K ad 2 G_Lacquer_spans) :=
  okX (N := N_Lacquer_spans) (s := B_Lacquer_spans) F sc_Lacquer_spans rfl rfl fun cdv A outer s H E hr =>
    (ss_c (s_if (pp_tcmp op_lt o_lt (pp_v 1 (pv 1)) (pp_c pe_int) (nomark _))
    (ss_1 (s_raise .BadNumber rfl (takes_of rfl rfl rfl rfl) PySem.F.excBase_ValueError T_BadNumber.x T_BadNumber.mg T_BadNumber.kp (raises_own T_BadNumber.b T_BadNumber.t) rfl))
    ss_n)
    (ss_1 (s_ret (pp_call O_f_ceil_div (hr.mono (by decide)) (by rfl) m_f_ceil_div k_f_ceil_div b_f_ceil_div .nil pass0 (pq_c (pp_v 1 (pv 1)) (pq_c (pp_prop .Lacquer (pp_v 0 (pv 0)) T_Lacquer.cl P_Lacquer_slack O_Lacquer_slack (hr.mono (by decide)) b_Lacquer_slack pass0) pq_n)) .nil))))

theorem ok_Lacquer_lead {f : Addr} {fd : FuncData} (F : L2.Fun K "lead" "Lacquer.lead" s_Lacquer_lead f fd)
    (T_BadNumber : S_BadNumber K mg (ad .BadNumber))
    (T_Lacquer : S_Lacquer K mg (ad .Lacquer))
    {f_Lacquer_spans : Addr} {fd_Lacquer_spans : FuncData} (O_Lacquer_spans : FnOk P w K mg base (L2.CX P w) 3 f_Lacquer_spans fd_Lacquer_spans ["self", "w"] (spP K ad 2 G_Lacquer_spans)) (b_Lacquer_spans : Binds K fd_Lacquer_spans ["self", "w"] []) (M_Lacquer_spans : Meth K (ad .Lacquer) "spans" f_Lacquer_spans) :
    FnOk P w K mg base (L2.CX P w) 4 f fd ["self", "w"] (spP K ad 2 G_Lacquer_lead) :=
  okX (N := N_Lacquer_lead) (s := B_Lacquer_lead) F sc_Lacquer_lead rfl rfl fun cdv A outer s H E hr =>
    (ss_c (s_if (pp_tcmp op_lt o_lt (pp_v 1 (pv 1)) (pp_c pe_int) (nomark _))
    (ss_1 (s_raise .BadNumber rfl (takes_of rfl rfl rfl rfl) PySem.F.excBase_ValueError T_BadNumber.x T_BadNumber.mg T_BadNumber.kp (raises_own T_BadNumber.b T_BadNumber.t) rfl))
    ss_n)
    (ss_1 (s_ret (pp_2 op_mulB o_mul (pp_2 op_sub o_sub (pp_methS .Lacquer (pp_v 0 (pv 0)) T_Lacquer.cl M_Lacquer_spans O_Lacquer_spans (takes_of rfl rfl rfl rfl) (hr.mono (by decide)) b_Lacquer_spans (pq_c (pp_v 1 (pv 1)) pq_n)) (pp_c pe_int)) (pp_fld .Lacquer 0 rfl T_Lacquer.cl T_Lacquer.n_a (pp_v 0 (pv 0)))))))

theorem ok_Lacquer_turns {f : Addr} {fd : FuncData} (F : L2.Fun K "turns" "Lacquer.turns" s_Lacquer_turns f fd)
    (T_BadNumber : S_BadNumber K mg (ad .BadNumber))
    (T_Lacquer : S_Lacquer K mg (ad .Lacquer))
    {f_f_ceil_div : Addr} {fd_f_ceil_div : FuncData} (O_f_ceil_div : FnOk P w K mg base CX0 1 f_f_ceil_div fd_f_ceil_div ["x", "y"] (spP K ad 2 G_f_ceil_div)) (m_f_ceil_div : mg "ceil_div" = some (.ref f_f_ceil_div)) (k_f_ceil_div : PySem.W.keepIn K (.ref f_f_ceil_div) = true) (b_f_ceil_div : Binds K fd_f_ceil_div ["x", "y"] []) :
    FnOk P w K mg base (L2.CX P w) 2 f fd ["self", "g"] (spP K ad 2 G_Lacquer_turns) :=
  okX (N := N_Lacquer_turns) (s := B_Lacquer_turns) F sc_Lacquer_turns rfl rfl fun cdv A outer s H E hr =>
    (ss_c (s_if (pp_tcmp op_lt o_lt (pp_v 1 (pv 1)) (pp_c pe_int) (nomark _))
    (ss_1 (s_raise .BadNumber rfl (takes_of rfl rfl rfl rfl) PySem.F.excBase_ValueError T_BadNumber.x T_BadNumber.mg T_BadNumber.kp (raises_own T_BadNumber.b T_BadNumber.t) rfl))
    ss_n)
    (ss_1 (s_ret (pp_call O_f_ceil_div (hr.mono (by decide)) (by rfl) m_f_ceil_div k_f_ceil_div b_f_ceil_div .nil pass0 (pq_c (pp_v 1 (pv 1)) (pq_c (pp_fld .Lacquer 0 rfl T_Lacquer.cl T_Lacquer.n_a (pp_v 0 (pv 0))) pq_n)) .nil))))

theorem ok_l_bars {f : Addr} {fd : FuncData} (F : L2.Fun K "_law_bars" "_law_bars" s_l_bars f fd)
    (T_BadLacquer : S_BadLacquer K mg (ad .BadLacquer))
    (T_BadNumber : S_BadNumber K mg (ad .BadNumber))
    (T_DampError : S_DampError K mg (ad .DampError))
    (T_Lacquer : S_Lacquer K mg (ad .Lacquer))
    (T_TooLarge : S_TooLarge K mg (ad .TooLarge))
    (z_ValueError : mg "ValueError" = none)
    (z_isinstance : mg "isinstance" = none)
    (kit_BadNumber_BadLacquer : PySem.W.kitOne K (.ref (ad .BadNumber)) (.ref (ad .BadLacquer)) = some false)
    (kit_BadNumber_DampError : PySem.W.kitOne K (.ref (ad .BadNumber)) (.ref (ad .DampError)) = some true)
    (kit_BadNumber_TooLarge : PySem.W.kitOne K (.ref (ad .BadNumber)) (.ref (ad .TooLarge)) = some false)
    (kit_BadNumber_ValueError : PySem.W.kitOne K (.ref (ad .BadNumber)) (.type "ValueError") = some true)
    (xm_BadLacquer_BadNumber : PySem.W.exmOne K (.ref (ad .BadLacquer)) (.ref (ad .BadNumber)) = some false)
    (xm_BadNumber_BadNumber : PySem.W.exmOne K (.ref (ad .BadNumber)) (.ref (ad .BadNumber)) = some true)
    (xm_DampError_BadNumber : PySem.W.exmOne K (.ref (ad .DampError)) (.ref (ad .BadNumber)) = some false)
    (xm_TooLarge_BadNumber : PySem.W.exmOne K (.ref (ad .TooLarge)) (.ref (ad .BadNumber)) = some false)
    {f_Lacquer_lead : Addr} {fd_Lacquer_lead : FuncData} (O_Lacquer_lead : FnOk P w K mg base (L2.CX P w) 4 f_Lacquer_lead fd_Lacquer_lead ["self", "w"] (spP K ad 2 G_Lacquer_lead)) (b_Lacquer_lead : Binds K fd_Lacquer_lead ["self", "w"] []) (M_Lacquer_lead : Meth K (ad .Lacquer) "lead" f_Lacquer_lead)
    {f_Lacquer_spans : Addr} {fd_Lacquer_spans : FuncData} (O_Lacquer_spans : FnOk P w K mg base (L2.CX P w) 3 f_Lacquer_spans fd_Lacquer_spans ["self", "w"] (spP K ad 2 G_Lacquer_spans)) (b_Lacquer_spans : Binds K fd_Lacquer_spans ["self", "w"] []) (M_Lacquer_spans : Meth K (ad .Lacquer) "spans" f_Lacquer_spans)
    {f_Lacquer_turns : Addr} {fd_Lacquer_turns : FuncData} (O_Lacquer_turns : FnOk P w K mg base (L2.CX P w) 2 f_Lacquer_turns fd_Lacquer_turns ["self", "g"] (spP K ad 2 G_Lacquer_turns)) (b_Lacquer_turns : Binds K fd_Lacquer_turns ["self", "g"] []) (M_Lacquer_turns : Meth K (ad .Lacquer) "turns" f_Lacquer_turns) :
    FnOk P w K mg base CX0 5 f fd ["lacquer", "way", "number"] (spP K ad 3 G_l_bars) :=
  ok0 (N := N_l_bars) (s := B_l_bars) F sc_l_bars rfl rfl fun cdv A outer s H E hr =>
    (ss_c (s_set (i := 3) sc_l_bars.nd rfl (by first | exact Or.inl rfl | exact Or.inr rfl) (pp_c pe_bl))
    (ss_c (s_set (i := 4) sc_l_bars.nd rfl (by first | exact Or.inl rfl | exact Or.inr rfl) (pp_c pe_bl))
    (ss_c (s_tryA (i := 5) rfl rfl rfl sc_l_bars.nd rfl rfl ⟨rfl, by decide, (.inl T_BadNumber.mg)⟩ takes0 (.cons xm_DampError_BadNumber (.cons xm_BadLacquer_BadNumber (.cons xm_BadNumber_BadNumber (.cons xm_TooLarge_BadNumber .nil))))
    (fun W pn xe tk po => (ss_1 (s_if (pp_tcmp (op_eqB hr.units) o_eq (pp_v 1 (pv 1)) (pp_c pe_int) (nomark _))
    (ss_1 (s_ex (pp_methS .Lacquer (pp_v 0 (pv 0)) T_Lacquer.cl M_Lacquer_spans O_Lacquer_spans tk (hr.mono (by decide)) b_Lacquer_spans (pq_c (pp_v 2 (pv 2)) pq_n))))
    (ss_1 (s_if (pp_tcmp (op_eqB hr.units) o_eq (pp_v 1 (pv 1)) (pp_c pe_int) (nomark _))
    (ss_1 (s_ex (pp_methS .Lacquer (pp_v 0 (pv 0)) T_Lacquer.cl M_Lacquer_turns O_Lacquer_turns tk (hr.mono (by decide)) b_Lacquer_turns (pq_c (pp_v 2 (pv 2)) pq_n))))
    (ss_1 (s_ex (pp_methS .Lacquer (pp_v 0 (pv 0)) T_Lacquer.cl M_Lacquer_lead O_Lacquer_lead tk (hr.mono (by decide)) b_Lacquer_lead (pq_c (pp_v 2 (pv 2)) pq_n)))))))))
    (fun a oe cls d pn hz hf => (ss_c (s_set (i := 3) sc_l_bars.nd rfl (by first | exact Or.inl rfl | exact Or.inr rfl) (pp_c pe_bl))
    (ss_c (s_set (i := 4) sc_l_bars.nd rfl (by first | exact Or.inl rfl | exact Or.inr rfl) (pp_van (pp_isE 5 rfl hz hf (.o kit_BadNumber_DampError T_BadNumber.ex .nil) (fun _ h => ClsV.eq ((.own _)) h) (by rfl) z_isinstance (pv 5) (C8.pe_gc (v := .ref (ad .DampError)) (by rfl) ⟨_, T_DampError.mg, rfl⟩)) (pe_one (pp_isE 5 rfl hz hf (.o kit_BadNumber_ValueError T_BadNumber.ex .nil) (fun _ h => ClsV.eq ((.ty _)) h) (by rfl) z_isinstance (pv 5) (pe_bltn (v := .ty "ValueError") (by rfl) z_ValueError (by decide +kernel) rfl)))))
    (ss_1 (s_set (i := 4) sc_l_bars.nd rfl (by first | exact Or.inl rfl | exact Or.inr rfl) (pp_van (pp_v 4 (pv 4)) (pp_van (pp_vno (pp_isE 5 rfl hz hf (.o kit_BadNumber_TooLarge T_BadNumber.ex .nil) (fun _ h => ClsV.eq ((.own _)) h) (by rfl) z_isinstance (pv 5) (C8.pe_gc (v := .ref (ad .TooLarge)) (by rfl) ⟨_, T_TooLarge.mg, rfl⟩))) (pe_one (pp_vno (pp_isE 5 rfl hz hf (.o kit_BadNumber_BadLacquer T_BadNumber.ex .nil) (fun _ h => ClsV.eq ((.own _)) h) (by rfl) z_isinstance (pv 5) (C8.pe_gc (v := .ref (ad .BadLacquer)) (by rfl) ⟨_, T_BadLacquer.mg, rfl⟩))))))))))))
    (ss_1 (s_ret (pp_van (pp_v 3 (pv 3)) (pe_one (pp_v 4 (pv 4)))))))))

theorem ok_l_least {f : Addr} {fd : FuncData} (F : L2.Fun K "_law_least" "_law_least" s_l_least f fd)
    {f_l_int : Addr} {fd_l_int : FuncData} (O_l_int : FnOk P w K mg base CX0 1 f_l_int fd_l_int ["x"] (spP K ad 1 G_l_int)) (m_l_int : mg "_law_int" = some (.ref f_l_int)) (k_l_int : PySem.W.keepIn K (.ref f_l_int) = true) (b_l_int : Binds K fd_l_int ["x"] []) :
    FnOk P w K mg base CX0 2 f fd ["count", "size", "reach"] (spP K ad 3 G_l_least) :=
  ok0 (N := N_l_least) (s := B_l_least) F sc_l_least rfl rfl fun cdv A outer s H E hr =>
    (ss_1 (s_ret (pp_van (pp_call O_l_int (hr.mono (by decide)) (by rfl) m_l_int k_l_int b_l_int .nil pass0 (pq_c (pp_v 0 (pv 0)) pq_n) .nil) (pp_van (pp_cmp op_ge o_ge (pp_2 op_mulB o_mul (pp_v 0 (pv 0)) (pp_v 1 (pv 1))) (pp_v 2 (pv 2)) (nomark _)) (pe_one (pp_cmp op_lt o_lt (pp_2 op_mulB o_mul (pp_2 op_sub o_sub (pp_v 0 (pv 0)) (pp_c pe_int)) (pp_v 1 (pv 1))) (pp_v 2 (pv 2)) (nomark _)))))))

theorem ok_l_counts {f : Addr} {fd : FuncData} (F : L2.Fun K "_law_counts" "_law_counts" s_l_counts f fd)
    (T_Lacquer : S_Lacquer K mg (ad .Lacquer))
    {f_l_int : Addr} {fd_l_int : FuncData} (O_l_int : FnOk P w K mg base CX0 1 f_l_int fd_l_int ["x"] (spP K ad 1 G_l_int)) (m_l_int : mg "_law_int" = some (.ref f_l_int)) (k_l_int : PySem.W.keepIn K (.ref f_l_int) = true) (b_l_int : Binds K fd_l_int ["x"] [])
    {f_l_least : Addr} {fd_l_least : FuncData} (O_l_least : FnOk P w K mg base CX0 2 f_l_least fd_l_least ["count", "size", "reach"] (spP K ad 3 G_l_least)) (m_l_least : mg "_law_least" = some (.ref f_l_least)) (k_l_least : PySem.W.keepIn K (.ref f_l_least) = true) (b_l_least : Binds K fd_l_least ["count", "size", "reach"] [])
    {f_Lacquer_lead : Addr} {fd_Lacquer_lead : FuncData} (O_Lacquer_lead : FnOk P w K mg base (L2.CX P w) 4 f_Lacquer_lead fd_Lacquer_lead ["self", "w"] (spP K ad 2 G_Lacquer_lead)) (b_Lacquer_lead : Binds K fd_Lacquer_lead ["self", "w"] []) (M_Lacquer_lead : Meth K (ad .Lacquer) "lead" f_Lacquer_lead)
    {f_Lacquer_spans : Addr} {fd_Lacquer_spans : FuncData} (O_Lacquer_spans : FnOk P w K mg base (L2.CX P w) 3 f_Lacquer_spans fd_Lacquer_spans ["self", "w"] (spP K ad 2 G_Lacquer_spans)) (b_Lacquer_spans : Binds K fd_Lacquer_spans ["self", "w"] []) (M_Lacquer_spans : Meth K (ad .Lacquer) "spans" f_Lacquer_spans)
    {f_Lacquer_turns : Addr} {fd_Lacquer_turns : FuncData} (O_Lacquer_turns : FnOk P w K mg base (L2.CX P w) 2 f_Lacquer_turns fd_Lacquer_turns ["self", "g"] (spP K ad 2 G_Lacquer_turns)) (b_Lacquer_turns : Binds K fd_Lacquer_turns ["self", "g"] []) (M_Lacquer_turns : Meth K (ad .Lacquer) "turns" f_Lacquer_turns) :
    FnOk P w K mg base CX0 5 f fd ["lacquer", "a", "b", "w", "g"] (spP K ad 5 G_l_counts) :=
  ok0 (N := N_l_counts) (s := B_l_counts) F sc_l_counts rfl rfl fun cdv A outer s H E hr =>
    (ss_c (s_if (PW.pt (pp_woo (pp_tno (pp_tval (pp_call O_l_least (hr.mono (by decide)) (by rfl) m_l_least k_l_least b_l_least .nil pass0 (pq_c (pp_meth .Lacquer (pp_v 0 (pv 0)) T_Lacquer.cl M_Lacquer_spans O_Lacquer_spans (hr.mono (by decide)) b_Lacquer_spans passL (pq_c (pp_v 3 (pv 3)) pq_n)) (pq_c (pp_2 op_sub o_sub (pp_v 2 (pv 2)) (pp_v 1 (pv 1))) (pq_c (pp_v 3 (pv 3)) pq_n))) .nil))) (pw_or1 (pp_tno (pp_tval (pp_call O_l_least (hr.mono (by decide)) (by rfl) m_l_least k_l_least b_l_least .nil pass0 (pq_c (pp_meth .Lacquer (pp_v 0 (pv 0)) T_Lacquer.cl M_Lacquer_turns O_Lacquer_turns (hr.mono (by decide)) b_Lacquer_turns passL (pq_c (pp_v 4 (pv 4)) pq_n)) (pq_c (pp_v 1 (pv 1)) (pq_c (pp_v 4 (pv 4)) pq_n))) .nil))))))
    (ss_1 (s_ret (pp_c pe_bl)))
    ss_n)
    (ss_c (s_if (PW.pt (pp_woo (pp_tno (pp_tval (pp_call O_l_least (hr.mono (by decide)) (by rfl) m_l_least k_l_least b_l_least .nil pass0 (pq_c (pp_meth .Lacquer (pp_v 0 (pv 0)) T_Lacquer.cl M_Lacquer_spans O_Lacquer_spans (hr.mono (by decide)) b_Lacquer_spans passL (pq_c (pp_c pe_int) pq_n)) (pq_c (pp_2 op_sub o_sub (pp_v 2 (pv 2)) (pp_v 1 (pv 1))) (pq_c (pp_c pe_int) pq_n))) .nil))) (pw_or1 (pp_tno (pp_tval (pp_call O_l_least (hr.mono (by decide)) (by rfl) m_l_least k_l_least b_l_least .nil pass0 (pq_c (pp_meth .Lacquer (pp_v 0 (pv 0)) T_Lacquer.cl M_Lacquer_turns O_Lacquer_turns (hr.mono (by decide)) b_Lacquer_turns passL (pq_c (pp_c pe_int) pq_n)) (pq_c (pp_v 1 (pv 1)) (pq_c (pp_c pe_int) pq_n))) .nil))))))
    (ss_1 (s_ret (pp_c pe_bl)))
    ss_n)
    (ss_c (s_set (i := 5) sc_l_counts.nd rfl (by first | exact Or.inl rfl | exact Or.inr rfl) (pp_meth .Lacquer (pp_v 0 (pv 0)) T_Lacquer.cl M_Lacquer_spans O_Lacquer_spans (hr.mono (by decide)) b_Lacquer_spans passL (pq_c (pp_2 op_add o_add (pp_v 3 (pv 3)) (pp_c pe_int)) pq_n)))
    (ss_c (s_if (pp_tno (pp_tval (pp_call O_l_least (hr.mono (by decide)) (by rfl) m_l_least k_l_least b_l_least .nil pass0 (pq_c (pp_v 5 (pv 5)) (pq_c (pp_2 op_sub o_sub (pp_v 2 (pv 2)) (pp_v 1 (pv 1))) (pq_c (pp_2 op_add o_add (pp_v 3 (pv 3)) (pp_c pe_int)) pq_n))) .nil)))
    (ss_1 (s_ret (pp_c pe_bl)))
    ss_n)
    (ss_c (s_set (i := 6) sc_l_counts.nd rfl (by first | exact Or.inl rfl | exact Or.inr rfl) (pp_meth .Lacquer (pp_v 0 (pv 0)) T_Lacquer.cl M_Lacquer_lead O_Lacquer_lead (hr.mono (by decide)) b_Lacquer_lead passL (pq_c (pp_2 op_add o_add (pp_v 3 (pv 3)) (pp_c pe_int)) pq_n)))
    (ss_1 (s_ret (pp_van (pp_call O_l_int (hr.mono (by decide)) (by rfl) m_l_int k_l_int b_l_int .nil pass0 (pq_c (pp_v 6 (pv 6)) pq_n) .nil) (pe_one (pp_cmp (op_eqB hr.units) o_eq (pp_v 6 (pv 6)) (pp_2 op_mulB o_mul (pp_2 op_sub o_sub (pp_v 5 (pv 5)) (pp_c pe_int)) (pp_v 1 (pv 1))) (nomark _)))))))))))

theorem ok_l_numbers {f : Addr} {fd : FuncData} (F : L2.Fun K "_law_numbers" "_law_numbers" s_l_numbers f fd)
    (T_Lacquer : S_Lacquer K mg (ad .Lacquer))
    (z_isinstance : mg "isinstance" = none)
    (kit_Lacquer_Lacquer : PySem.W.kitOne K (.ref (ad .Lacquer)) (.ref (ad .Lacquer)) = some true)
    (kit_NoneType_Lacquer : PySem.W.kitOne K (.type "NoneType") (.ref (ad .Lacquer)) = some false)
    {f_l_int : Addr} {fd_l_int : FuncData} (O_l_int : FnOk P w K mg base CX0 1 f_l_int fd_l_int ["x"] (spP K ad 1 G_l_int)) (m_l_int : mg "_law_int" = some (.ref f_l_int)) (k_l_int : PySem.W.keepIn K (.ref f_l_int) = true) (b_l_int : Binds K fd_l_int ["x"] [])
    {f_Lacquer_slack : Addr} {fd_Lacquer_slack : FuncData} (O_Lacquer_slack : FnOk P w K mg base CX0 1 f_Lacquer_slack fd_Lacquer_slack ["self"] (spP K ad 1 G_Lacquer_slack)) (b_Lacquer_slack : Binds K fd_Lacquer_slack ["self"] []) {p_Lacquer_slack : Addr} (P_Lacquer_slack : PropOf K (ad .Lacquer) "slack" p_Lacquer_slack f_Lacquer_slack) :
    FnOk P w K mg base CX0 3 f fd ["lacquer", "a", "b"] (spP K ad 3 G_l_numbers) :=
  ok0 (N := N_l_numbers) (s := B_l_numbers) F sc_l_numbers rfl rfl fun cdv A outer s H E hr =>
    (ss_c (s_if (PW.pt (pp_woo (pp_tno (pp_tval (pp_isi rfl (.o kit_Lacquer_Lacquer T_Lacquer.ct (.b kit_NoneType_Lacquer .nil)) (.own _) (by rfl) z_isinstance (pp_v 0 (pv 0)) (C8.pe_gc (v := .ref (ad .Lacquer)) (by rfl) ⟨_, T_Lacquer.mg, rfl⟩)))) (pp_woo (pp_tno (pp_tval (pp_call O_l_int (hr.mono (by decide)) (by rfl) m_l_int k_l_int b_l_int .nil pass0 (pq_c (pp_fld .Lacquer 0 rfl T_Lacquer.cl T_Lacquer.n_a (pp_v 0 (pv 0))) pq_n) .nil))) (pw_or1 (pp_tno (pp_tval (pp_call O_l_int (hr.mono (by decide)) (by rfl) m_l_int k_l_int b_l_int .nil pass0 (pq_c (pp_fld .Lacquer 1 rfl T_Lacquer.cl T_Lacquer.n_b (pp_v 0 (pv 0))) pq_n) .nil)))))))
    (ss_1 (s_ret (pp_c pe_bl)))
    ss_n)
    (ss_c (s_if (PW.pt (pp_woo (pp_tcmp (op_neB hr.units) o_ne (pp_fld .Lacquer 0 rfl T_Lacquer.cl T_Lacquer.n_a (pp_v 0 (pv 0))) (pp_v 1 (pv 1)) (nomark _)) (pw_or1 (pp_tcmp (op_neB hr.units) o_ne (pp_fld .Lacquer 1 rfl T_Lacquer.cl T_Lacquer.n_b (pp_v 0 (pv 0))) (pp_v 2 (pv 2)) (nomark _)))))
    (ss_1 (s_ret (pp_c pe_bl)))
    ss_n)
    (ss_1 (s_ret (pp_van (pp_call O_l_int (hr.mono (by decide)) (by rfl) m_l_int k_l_int b_l_int .nil pass0 (pq_c (pp_prop .Lacquer (pp_v 0 (pv 0)) T_Lacquer.cl P_Lacquer_slack O_Lacquer_slack (hr.mono (by decide)) b_Lacquer_slack pass0) pq_n) .nil) (pe_one (pp_cmp (op_eqB hr.units) o_eq (pp_prop .Lacquer (pp_v 0 (pv 0)) T_Lacquer.cl P_Lacquer_slack O_Lacquer_slack (hr.mono (by decide)) b_Lacquer_slack pass0) (pp_2 op_sub o_sub (pp_v 2 (pv 2)) (pp_v 1 (pv 1))) (nomark _))))))))

theorem ok_Lacquer_contains {f : Addr} {fd : FuncData} (F : L2.Fun K "__contains__" "Lacquer.__contains__" s_Lacquer_contains f fd)
    (T_Lacquer : S_Lacquer K mg (ad .Lacquer)) :
    FnOk P w K mg base CX0 1 f fd ["self", "step"] (spP K ad 2 G_Lacquer_contains) :=
  ok0 (N := N_Lacquer_contains) (s := B_Lacquer_contains) F sc_Lacquer_contains rfl rfl fun cdv A outer s H E hr =>
    (ss_1 (s_ret (pp_ch2 op_le op_le o_le o_le (pp_fld .Lacquer 0 rfl T_Lacquer.cl T_Lacquer.n_a (pp_v 0 (pv 0))) (pp_v 1 (pv 1)) (pp_fld .Lacquer 1 rfl T_Lacquer.cl T_Lacquer.n_b (pp_v 0 (pv 0))))))

theorem ok_l_steps {f : Addr} {fd : FuncData} (F : L2.Fun K "_law_steps" "_law_steps" s_l_steps f fd)
    (T_Lacquer : S_Lacquer K mg (ad .Lacquer))
    (z_range : mg "range" = none)
    {f_Lacquer_contains : Addr} {fd_Lacquer_contains : FuncData} (O_Lacquer_contains : FnOk P w K mg base CX0 1 f_Lacquer_contains fd_Lacquer_contains ["self", "step"] (spP K ad 2 G_Lacquer_contains)) (b_Lacquer_contains : Binds K fd_Lacquer_contains ["self", "step"] []) (M_Lacquer_contains : Meth K (ad .Lacquer) "__contains__" f_Lacquer_contains) :
    FnOk P w K mg base CX0 2 f fd ["lacquer", "a", "b", "far"] (spP K ad 4 G_l_steps) :=
  ok0 (N := N_l_steps) (s := B_l_steps) F sc_l_steps rfl rfl fun cdv A outer s H E hr =>
    (ss_c (s_for PassesOwn.never rfl (pi_r2 (by rfl) z_range (pp_1 un_neg o_neg (pp_c pe_int)) (pp_c pe_int)) (g_n (i := 4) sc_l_steps.nd rfl (by first | exact Or.inl rfl | exact Or.inr rfl))
    (ss_1 (s_if (pp_tcmp (op_neB hr.units) o_ne (pp_ownin .Lacquer rfl M_Lacquer_contains O_Lacquer_contains (hr.mono (by decide)) b_Lacquer_contains pass0 (pp_v 4 (pv 4)) (pp_v 0 (pv 0)) (by rfl)) (pp_van (pp_cmp op_le o_le (pp_v 1 (pv 1)) (pp_v 4 (pv 4)) (nomark _)) (pe_one (pp_cmp op_le o_le (pp_v 4 (pv 4)) (pp_v 2 (pv 2)) (nomark _)))) (nomark _))
    (ss_1 (s_ret (pp_c pe_bl)))
    ss_n)))
    (ss_1 (s_ret (pp_cmp (op_eqB hr.units) o_eq (pp_ownin .Lacquer rfl M_Lacquer_contains O_Lacquer_contains (hr.mono (by decide)) b_Lacquer_contains pass0 (pp_v 3 (pv 3)) (pp_v 0 (pv 0)) (by rfl)) (pp_van (pp_cmp op_le o_le (pp_v 1 (pv 1)) (pp_v 3 (pv 3)) (nomark _)) (pe_one (pp_cmp op_le o_le (pp_v 3 (pv 3)) (pp_v 2 (pv 2)) (nomark _)))) (nomark _)))))

theorem ok_l_whole_one {f : Addr} {fd : FuncData} (F : L2.Fun K "_law_whole_one" "_law_whole_one" s_l_whole_one f fd)
    {f_l_bars : Addr} {fd_l_bars : FuncData} (O_l_bars : FnOk P w K mg base CX0 5 f_l_bars fd_l_bars ["lacquer", "way", "number"] (spP K ad 3 G_l_bars)) (m_l_bars : mg "_law_bars" = some (.ref f_l_bars)) (k_l_bars : PySem.W.keepIn K (.ref f_l_bars) = true) (b_l_bars : Binds K fd_l_bars ["lacquer", "way", "number"] [])
    {f_l_counts : Addr} {fd_l_counts : FuncData} (O_l_counts : FnOk P w K mg base CX0 5 f_l_counts fd_l_counts ["lacquer", "a", "b", "w", "g"] (spP K ad 5 G_l_counts)) (m_l_counts : mg "_law_counts" = some (.ref f_l_counts)) (k_l_counts : PySem.W.keepIn K (.ref f_l_counts) = true) (b_l_counts : Binds K fd_l_counts ["lacquer", "a", "b", "w", "g"] [])
    {f_l_equals : Addr} {fd_l_equals : FuncData} (O_l_equals : FnOk P w K mg base CX0 2 f_l_equals fd_l_equals ["one", "other", "due"] (spP K ad 3 G_l_equals)) (m_l_equals : mg "_law_equals" = some (.ref f_l_equals)) (k_l_equals : PySem.W.keepIn K (.ref f_l_equals) = true) (b_l_equals : Binds K fd_l_equals ["one", "other", "due"] [])
    {f_l_made : Addr} {fd_l_made : FuncData} (O_l_made : FnOk P w K mg base CX0 3 f_l_made fd_l_made ["a", "b"] (spP K ad 2 G_l_made)) (m_l_made : mg "_law_made" = some (.ref f_l_made)) (k_l_made : PySem.W.keepIn K (.ref f_l_made) = true) (b_l_made : Binds K fd_l_made ["a", "b"] [])
    {f_l_numbers : Addr} {fd_l_numbers : FuncData} (O_l_numbers : FnOk P w K mg base CX0 3 f_l_numbers fd_l_numbers ["lacquer", "a", "b"] (spP K ad 3 G_l_numbers)) (m_l_numbers : mg "_law_numbers" = some (.ref f_l_numbers)) (k_l_numbers : PySem.W.keepIn K (.ref f_l_numbers) = true) (b_l_numbers : Binds K fd_l_numbers ["lacquer", "a", "b"] [])
    {f_l_steps : Addr} {fd_l_steps : FuncData} (O_l_steps : FnOk P w K mg base CX0 2 f_l_steps fd_l_steps ["lacquer", "a", "b", "far"] (spP K ad 4 G_l_steps)) (m_l_steps : mg "_law_steps" = some (.ref f_l_steps)) (k_l_steps : PySem.W.keepIn K (.ref f_l_steps) = true) (b_l_steps : Binds K fd_l_steps ["lacquer", "a", "b", "far"] []) :
    FnOk P w K mg base CX0 6 f fd ["lacquer", "pair", "w", "g", "low", "far"] (spP K ad 6 G_l_whole_one) :=
  ok0 (N := N_l_whole_one) (s := B_l_whole_one) F sc_l_whole_one rfl rfl fun cdv A outer s H E hr =>
    (ss_c (s_set (i := 6) sc_l_whole_one.nd rfl (by first | exact Or.inl rfl | exact Or.inr rfl) (pp_ix rfl (pp_v 1 (pv 1)) (pp_c pe_int) (fun _ _ => rfl)))
    (ss_c (s_set (i := 7) sc_l_whole_one.nd rfl (by first | exact Or.inl rfl | exact Or.inr rfl) (pp_ix rfl (pp_v 1 (pv 1)) (pp_c pe_int) (fun _ _ => rfl)))
    (ss_c (s_if (PW.pt (pp_woo (pp_tno (pp_tval (pp_call O_l_numbers (hr.mono (by decide)) (by rfl) m_l_numbers k_l_numbers b_l_numbers .nil pass0 (pq_c (pp_v 0 (pv 0)) (pq_c (pp_v 6 (pv 6)) (pq_c (pp_v 7 (pv 7)) pq_n))) .nil))) (pw_or1 (pp_tno (pp_tval (pp_call O_l_steps (hr.mono (by decide)) (by rfl) m_l_steps k_l_steps b_l_steps .nil pass0 (pq_c (pp_v 0 (pv 0)) (pq_c (pp_v 6 (pv 6)) (pq_c (pp_v 7 (pv 7)) (pq_c (pp_v 5 (pv 5)) pq_n)))) .nil))))))
    (ss_1 (s_ret (pp_c pe_bl)))
    ss_n)
    (ss_c (s_if (pp_tno (pp_tval (pp_call O_l_counts (hr.mono (by decide)) (by rfl) m_l_counts k_l_counts b_l_counts .nil pass0 (pq_c (pp_v 0 (pv 0)) (pq_c (pp_v 6 (pv 6)) (pq_c (pp_v 7 (pv 7)) (pq_c (pp_v 2 (pv 2)) (pq_c (pp_v 3 (pv 3)) pq_n))))) .nil)))
    (ss_1 (s_ret (pp_c pe_bl)))
    ss_n)
    (ss_c (s_if (PW.pt (pp_woo (pp_tno (pp_tval (pp_call O_l_bars (hr.mono (by decide)) (by rfl) m_l_bars k_l_bars b_l_bars .nil pass0 (pq_c (pp_v 0 (pv 0)) (pq_c (pp_c pe_int) (pq_c (pp_2 op_sub o_sub (pp_1 un_neg o_neg (pp_c pe_int)) (pp_v 4 (pv 4))) pq_n))) .nil))) (pw_or1 (pp_tno (pp_tval (pp_call O_l_bars (hr.mono (by decide)) (by rfl) m_l_bars k_l_bars b_l_bars .nil pass0 (pq_c (pp_v 0 (pv 0)) (pq_c (pp_c pe_int) (pq_c (pp_2 op_sub o_sub (pp_1 un_neg o_neg (pp_c pe_int)) (pp_v 4 (pv 4))) pq_n))) .nil))))))
    (ss_1 (s_ret (pp_c pe_bl)))
    ss_n)
    (ss_c (s_if (PW.pt (pp_woo (pp_tno (pp_tval (pp_call O_l_bars (hr.mono (by decide)) (by rfl) m_l_bars k_l_bars b_l_bars .nil pass0 (pq_c (pp_v 0 (pv 0)) (pq_c (pp_c pe_int) (pq_c (pp_c pe_int) pq_n))) .nil))) (pw_or1 (pp_tno (pp_tval (pp_call O_l_bars (hr.mono (by decide)) (by rfl) m_l_bars k_l_bars b_l_bars .nil pass0 (pq_c (pp_v 0 (pv 0)) (pq_c (pp_c pe_int) (pq_c (pp_2 op_sub o_sub (pp_1 un_neg o_neg (pp_c pe_int)) (pp_v 4 (pv 4))) pq_n))) .nil))))))
    (ss_1 (s_ret (pp_c pe_bl)))
    ss_n)
    (ss_c (s_if (PW.pt (pp_woo (pp_tno (pp_tval (pp_call O_l_counts (hr.mono (by decide)) (by rfl) m_l_counts k_l_counts b_l_counts .nil pass0 (pq_c (pp_v 0 (pv 0)) (pq_c (pp_v 6 (pv 6)) (pq_c (pp_v 7 (pv 7)) (pq_c (pp_v 2 (pv 2)) (pq_c (pp_v 3 (pv 3)) pq_n))))) .nil))) (pw_or1 (pp_tno (pp_tval (pp_call O_l_equals (hr.mono (by decide)) (by rfl) m_l_equals k_l_equals b_l_equals .nil pass0 (pq_c (pp_v 0 (pv 0)) (pq_c (pp_call O_l_made (hr.mono (by decide)) (by rfl) m_l_made k_l_made b_l_made .nil pass0 (pq_c (pp_v 6 (pv 6)) (pq_c (pp_v 7 (pv 7)) pq_n)) .nil) (pq_c (pp_c pe_bl) pq_n))) .nil))))))
    (ss_1 (s_ret (pp_c pe_bl)))
    ss_n)
    (ss_1 (s_ret (pp_call O_l_numbers (hr.mono (by decide)) (by rfl) m_l_numbers k_l_numbers b_l_numbers .nil pass0 (pq_c (pp_v 0 (pv 0)) (pq_c (pp_v 6 (pv 6)) (pq_c (pp_v 7 (pv 7)) pq_n))) .nil))))))))))

theorem ok_f_lacquers {f : Addr} {fd : FuncData} (F : L2.Fun K "lacquers" "lacquers" s_f_lacquers f fd) (T_Lacquer : S_Lacquer K mg (ad .Lacquer)) (z_range : mg "range" = none) {f_Lacquer_init : Addr} {fd_Lacquer_init : FuncData} (O_Lacquer_init : FnOk P w K mg base (L2.CX P w) 1 f_Lacquer_init fd_Lacquer_init ["self", "a", "b"] (spP K ad 3 G_Lacquer_init)) (b_Lacquer_init : Binds K fd_Lacquer_init ["self", "a", "b"] []) (I_Lacquer : Mk K (ad .Lacquer) f_Lacquer_init) :
    GFn P w K mg base 3 f fd ["most"] (spG K ad 1 2 B_f_lacquers) :=
  okG (N := N_f_lacquers) F sc_f_lacquers rfl rfl fun cdv A outer s H E pn hr =>
    (g_c (g_for owns_gcx rfl (pi_r2 (by rfl) z_range (pp_c pe_int) (pp_v 0 (pv 0))) (g_n (i := 1) sc_f_lacquers.nd rfl (by first | exact Or.inl rfl | exact Or.inr rfl))
    (g_c (g_for owns_gcx rfl (pi_r2 (by rfl) z_range (pp_2 op_add o_add (pp_v 1 (pv 1)) (pp_c pe_int)) (pp_2 op_add o_add (pp_v 0 (pv 0)) (pp_c pe_int))) (g_n (i := 2) sc_f_lacquers.nd rfl (by first | exact Or.inl rfl | exact Or.inr rfl))
    (g_c (g_y (pp_make .Lacquer I_Lacquer O_Lacquer_init (hr.mono (by decide)) (by rfl) T_Lacquer.mg b_Lacquer_init .nil passL (pq_c (pp_v 1 (pv 1)) (pq_c (pp_v 2 (pv 2)) pq_n)) .nil))
    g_nil))
    g_nil))
    g_nil)

theorem ok_l_yields {f : Addr} {fd : FuncData} (F : L2.Fun K "_law_yields" "_law_yields" s_l_yields f fd)
    (z_len : mg "len" = none)
    (z_list : mg "list" = none)
    (z_range : mg "range" = none)
    (z_sorted : mg "sorted" = none)
    {f_f_lacquers : Addr} {fd_f_lacquers : FuncData} (O_f_lacquers : GFn P w K mg base 3 f_f_lacquers fd_f_lacquers ["most"] (spG K ad 1 2 B_f_lacquers)) (m_f_lacquers : mg "lacquers" = some (.ref f_f_lacquers)) (k_f_lacquers : PySem.W.keepIn K (.ref f_f_lacquers) = true) (b_f_lacquers : Binds K fd_f_lacquers ["most"] [])
    {f_l_numbers : Addr} {fd_l_numbers : FuncData} (O_l_numbers : FnOk P w K mg base CX0 3 f_l_numbers fd_l_numbers ["lacquer", "a", "b"] (spP K ad 3 G_l_numbers)) (m_l_numbers : mg "_law_numbers" = some (.ref f_l_numbers)) (k_l_numbers : PySem.W.keepIn K (.ref f_l_numbers) = true) (b_l_numbers : Binds K fd_l_numbers ["lacquer", "a", "b"] []) :
    FnOk P w K mg base CX0 7 f fd ["most"] (spP K ad 1 G_l_yields) :=
  ok0 (N := N_l_yields) (s := B_l_yields) F sc_l_yields rfl rfl fun cdv A outer s H E hr =>
    (ss_c (s_setC (i := 1) sc_l_yields.nd rfl (by first | exact Or.inl rfl | exact Or.inr rfl) (pp_lst pd_n))
    (ss_c (s_for PassesOwn.never rfl (pi_r2 (by rfl) z_range (pp_c pe_int) (pp_2 op_add o_add (pp_v 0 (pv 0)) (pp_c pe_int))) (g_n (i := 2) sc_l_yields.nd rfl (by first | exact Or.inl rfl | exact Or.inr rfl))
    (ss_1 (s_for PassesOwn.never rfl (pi_r2 (by rfl) z_range (pp_c pe_int) (pp_v 2 (pv 2))) (g_n (i := 3) sc_l_yields.nd rfl (by first | exact Or.inl rfl | exact Or.inr rfl))
    (ss_1 (s_ex (pp_bmL 1 rfl ol_app PySem.F.plainAttrs_list PySem.F.slot_list_append PySem.F.type_list_append mt_append (pv 1) (pd_c (pp_tup (pd_c (pp_v 3 (pv 3)) (pd_c (pp_v 2 (pv 2)) pd_n))) pd_n)))))))
    (ss_c (s_setC (i := 1) sc_l_yields.nd rfl (by first | exact Or.inl rfl | exact Or.inr rfl) (pp_Bc ob_srtL (SRT.cr_sortL (by decide)) (by rfl) z_sorted (by decide +kernel) (pd_c (pp_f 1 (pv 1)) pd_n)))
    (ss_c (s_set (i := 4) sc_l_yields.nd rfl (by first | exact Or.inl rfl | exact Or.inr rfl) (pp_lstGC O_f_lacquers (hr.mono (by decide)) (by rfl) m_f_lacquers k_f_lacquers b_f_lacquers passG (pq_c (pp_v 0 (pv 0)) pq_n) (by rfl) z_list (by decide +kernel)))
    (ss_c (s_if (pp_tcmp (op_neB hr.units) o_ne (pp_B ob_len (c_lenA rfl) (by rfl) z_len (by decide +kernel) (pd_c (pp_v 4 (pv 4)) pd_n)) (pp_B ob_len (c_lenA rfl) (by rfl) z_len (by decide +kernel) (pd_c (pp_f 1 (pv 1)) pd_n)) (nomark _))
    (ss_1 (s_ret (pp_c pe_bl)))
    ss_n)
    (ss_c (s_for PassesOwn.never rfl (pi_r1 (by rfl) z_range (pp_B ob_len (c_lenA rfl) (by rfl) z_len (by decide +kernel) (pd_c (pp_f 1 (pv 1)) pd_n))) (g_n (i := 5) sc_l_yields.nd rfl (by first | exact Or.inl rfl | exact Or.inr rfl))
    (ss_1 (s_if (pp_tno (pp_tval (pp_call O_l_numbers (hr.mono (by decide)) (by rfl) m_l_numbers k_l_numbers b_l_numbers .nil pass0 (pq_c (pp_ix rfl (pp_v 4 (pv 4)) (pp_v 5 (pv 5)) (fun _ _ => rfl)) (pq_c (pp_ix rfl (pp_ix rfl (pp_f 1 (pv 1)) (pp_v 5 (pv 5)) (fun _ _ => rfl)) (pp_c pe_int) (fun _ _ => rfl)) (pq_c (pp_ix rfl (pp_ix rfl (pp_f 1 (pv 1)) (pp_v 5 (pv 5)) (fun _ _ => rfl)) (pp_c pe_int) (fun _ _ => rfl)) pq_n))) .nil)))
    (ss_1 (s_ret (pp_c pe_bl)))
    ss_n)))
    (ss_1 (s_ret (pp_c pe_bl)))))))))

theorem ok_l_law {f : Addr} {fd : FuncData} (F : L2.Fun K "law" "law" s_l_law f fd)
    (T_Lacquer : S_Lacquer K mg (ad .Lacquer))
    {f_l_ab : Addr} {fd_l_ab : FuncData} (O_l_ab : FnOk P w K mg base CX0 2 f_l_ab fd_l_ab ["pool", "most"] (spP K ad 2 G_l_ab)) (m_l_ab : mg "_law_ab" = some (.ref f_l_ab)) (k_l_ab : PySem.W.keepIn K (.ref f_l_ab) = true) (b_l_ab : Binds K fd_l_ab ["pool", "most"] [])
    {f_l_any : Addr} {fd_l_any : FuncData} (O_l_any : FnOk P w K mg base CX0 3 f_l_any fd_l_any ["pool"] (spP K ad 1 G_l_any)) (m_l_any : mg "_law_any" = some (.ref f_l_any)) (k_l_any : PySem.W.keepIn K (.ref f_l_any) = true) (b_l_any : Binds K fd_l_any ["pool"] [])
    {f_l_cell : Addr} {fd_l_cell : FuncData} (O_l_cell : FnOk P w K mg base CX0 1 f_l_cell fd_l_cell ["script", "k"] (spP K ad 2 G_l_cell)) (m_l_cell : mg "_law_cell" = some (.ref f_l_cell)) (k_l_cell : PySem.W.keepIn K (.ref f_l_cell) = true) (b_l_cell : Binds K fd_l_cell ["script", "k"] [])
    {f_l_equals : Addr} {fd_l_equals : FuncData} (O_l_equals : FnOk P w K mg base CX0 2 f_l_equals fd_l_equals ["one", "other", "due"] (spP K ad 3 G_l_equals)) (m_l_equals : mg "_law_equals" = some (.ref f_l_equals)) (k_l_equals : PySem.W.keepIn K (.ref f_l_equals) = true) (b_l_equals : Binds K fd_l_equals ["one", "other", "due"] [])
    {f_l_int : Addr} {fd_l_int : FuncData} (O_l_int : FnOk P w K mg base CX0 1 f_l_int fd_l_int ["x"] (spP K ad 1 G_l_int)) (m_l_int : mg "_law_int" = some (.ref f_l_int)) (k_l_int : PySem.W.keepIn K (.ref f_l_int) = true) (b_l_int : Binds K fd_l_int ["x"] [])
    {f_l_made : Addr} {fd_l_made : FuncData} (O_l_made : FnOk P w K mg base CX0 3 f_l_made fd_l_made ["a", "b"] (spP K ad 2 G_l_made)) (m_l_made : mg "_law_made" = some (.ref f_l_made)) (k_l_made : PySem.W.keepIn K (.ref f_l_made) = true) (b_l_made : Binds K fd_l_made ["a", "b"] [])
    {f_l_pool : Addr} {fd_l_pool : FuncData} (O_l_pool : FnOk P w K mg base CX0 1 f_l_pool fd_l_pool ["cell"] (spP K ad 1 G_l_pool)) (m_l_pool : mg "_law_pool" = some (.ref f_l_pool)) (k_l_pool : PySem.W.keepIn K (.ref f_l_pool) = true) (b_l_pool : Binds K fd_l_pool ["cell"] [])
    {f_l_refuses : Addr} {fd_l_refuses : FuncData} (O_l_refuses : FnOk P w K mg base CX0 3 f_l_refuses fd_l_refuses ["a", "b"] (spP K ad 2 G_l_refuses)) (m_l_refuses : mg "_law_refuses" = some (.ref f_l_refuses)) (k_l_refuses : PySem.W.keepIn K (.ref f_l_refuses) = true) (b_l_refuses : Binds K fd_l_refuses ["a", "b"] [])
    {f_l_take : Addr} {fd_l_take : FuncData} (O_l_take : FnOk P w K mg base CX0 1 f_l_take fd_l_take ["pool", "size"] (spP K ad 2 G_l_take)) (m_l_take : mg "_law_take" = some (.ref f_l_take)) (k_l_take : PySem.W.keepIn K (.ref f_l_take) = true) (b_l_take : Binds K fd_l_take ["pool", "size"] [])
    {f_l_whole_one : Addr} {fd_l_whole_one : FuncData} (O_l_whole_one : FnOk P w K mg base CX0 6 f_l_whole_one fd_l_whole_one ["lacquer", "pair", "w", "g", "low", "far"] (spP K ad 6 G_l_whole_one)) (m_l_whole_one : mg "_law_whole_one" = some (.ref f_l_whole_one)) (k_l_whole_one : PySem.W.keepIn K (.ref f_l_whole_one) = true) (b_l_whole_one : Binds K fd_l_whole_one ["lacquer", "pair", "w", "g", "low", "far"] [])
    {f_l_yields : Addr} {fd_l_yields : FuncData} (O_l_yields : FnOk P w K mg base CX0 7 f_l_yields fd_l_yields ["most"] (spP K ad 1 G_l_yields)) (m_l_yields : mg "_law_yields" = some (.ref f_l_yields)) (k_l_yields : PySem.W.keepIn K (.ref f_l_yields) = true) (b_l_yields : Binds K fd_l_yields ["most"] []) :
    FnOk P w K mg base CX0 8 f fd ["script"] (spP K ad 1 G_l_law) :=
  ok0 (N := N_l_law) (s := B_l_law) F sc_l_law rfl rfl fun cdv A outer s H E hr =>
    (ss_c (s_setC (i := 1) sc_l_law.nd rfl (by first | exact Or.inl rfl | exact Or.inr rfl) (pp_call O_l_pool (hr.mono (by decide)) (by rfl) m_l_pool k_l_pool b_l_pool .nil pass0 (pq_c (pp_call O_l_cell (hr.mono (by decide)) (by rfl) m_l_cell k_l_cell b_l_cell .nil pass0 (pq_c (pp_v 0 (pv 0)) (pq_c (pp_c pe_int) pq_n)) .nil) pq_n) .nil))
    (ss_c (s_if (pp_tcmp (op_eqB hr.units) o_eq (pp_call O_l_take (hr.mono (by decide)) (by rfl) m_l_take k_l_take b_l_take .nil pass0 (pq_k 1 (pv 1) (pq_c (pp_c pe_int) pq_n)) .nil) (pp_c pe_int) (nomark _))
    (ss_1 (s_set (i := 2) sc_l_law.nd rfl (by first | exact Or.inl rfl | exact Or.inr rfl) (pp_call O_l_ab (hr.mono (by decide)) (by rfl) m_l_ab k_l_ab b_l_ab .nil pass0 (pq_k 1 (pv 1) (pq_c (pp_c pe_int) pq_n)) .nil)))
    (ss_c (s_set (i := 3) sc_l_law.nd rfl (by first | exact Or.inl rfl | exact Or.inr rfl) (pp_call O_l_any (hr.mono (by decide)) (by rfl) m_l_any k_l_any b_l_any .nil pass0 (pq_k 1 (pv 1) pq_n) .nil))
    (ss_1 (s_set (i := 2) sc_l_law.nd rfl (by first | exact Or.inl rfl | exact Or.inr rfl) (pp_tup (pd_c (pp_v 3 (pv 3)) (pd_c (pp_call O_l_any (hr.mono (by decide)) (by rfl) m_l_any k_l_any b_l_any .nil pass0 (pq_k 1 (pv 1) pq_n) .nil) pd_n)))))))
    (ss_c (s_setC (i := 1) sc_l_law.nd rfl (by first | exact Or.inl rfl | exact Or.inr rfl) (pp_call O_l_pool (hr.mono (by decide)) (by rfl) m_l_pool k_l_pool b_l_pool .nil pass0 (pq_c (pp_call O_l_cell (hr.mono (by decide)) (by rfl) m_l_cell k_l_cell b_l_cell .nil pass0 (pq_c (pp_v 0 (pv 0)) (pq_c (pp_c pe_int) pq_n)) .nil) pq_n) .nil))
    (ss_c (s_set (i := 4) sc_l_law.nd rfl (by first | exact Or.inl rfl | exact Or.inr rfl) (pp_call O_l_ab (hr.mono (by decide)) (by rfl) m_l_ab k_l_ab b_l_ab .nil pass0 (pq_k 1 (pv 1) (pq_c (pp_c pe_int) pq_n)) .nil))
    (ss_c (s_if (pp_tcmp (op_eqB hr.units) o_eq (pp_call O_l_take (hr.mono (by decide)) (by rfl) m_l_take k_l_take b_l_take .nil pass0 (pq_k 1 (pv 1) (pq_c (pp_c pe_int) pq_n)) .nil) (pp_c pe_int) (nomark _))
    (ss_c (s_set (i := 5) sc_l_law.nd rfl (by first | exact Or.inl rfl | exact Or.inr rfl) (pp_call O_l_take (hr.mono (by decide)) (by rfl) m_l_take k_l_take b_l_take .nil pass0 (pq_k 1 (pv 1) (pq_c (pp_c pe_int) pq_n)) .nil))
    (ss_1 (s_set (i := 6) sc_l_law.nd rfl (by first | exact Or.inl rfl | exact Or.inr rfl) (pp_call O_l_take (hr.mono (by decide)) (by rfl) m_l_take k_l_take b_l_take .nil pass0 (pq_k 1 (pv 1) (pq_c (pp_c pe_int) pq_n)) .nil))))
    (ss_c (s_set (i := 5) sc_l_law.nd rfl (by first | exact Or.inl rfl | exact Or.inr rfl) (pp_call O_l_take (hr.mono (by decide)) (by rfl) m_l_take k_l_take b_l_take .nil pass0 (pq_k 1 (pv 1) (pq_c (pp_c pe_int) pq_n)) .nil))
    (ss_1 (s_set (i := 6) sc_l_law.nd rfl (by first | exact Or.inl rfl | exact Or.inr rfl) (pp_call O_l_take (hr.mono (by decide)) (by rfl) m_l_take k_l_take b_l_take .nil pass0 (pq_k 1 (pv 1) (pq_c (pp_c pe_int) pq_n)) .nil)))))
    (ss_c (s_if (pp_tcmp (op_eqB hr.units) o_eq (pp_call O_l_take (hr.mono (by decide)) (by rfl) m_l_take k_l_take b_l_take .nil pass0 (pq_k 1 (pv 1) (pq_c (pp_c pe_int) pq_n)) .nil) (pp_c pe_int) (nomark _))
    (ss_c (s_set (i := 5) sc_l_law.nd rfl (by first | exact Or.inl rfl | exact Or.inr rfl) (pp_call O_l_take (hr.mono (by decide)) (by rfl) m_l_take k_l_take b_l_take .nil pass0 (pq_k 1 (pv 1) (pq_c (pp_c pe_int) pq_n)) .nil))
    (ss_1 (s_set (i := 6) sc_l_law.nd rfl (by first | exact Or.inl rfl | exact Or.inr rfl) (pp_call O_l_take (hr.mono (by decide)) (by rfl) m_l_take k_l_take b_l_take .nil pass0 (pq_k 1 (pv 1) (pq_c (pp_c pe_int) pq_n)) .nil))))
    ss_n)
    (ss_c (s_set (i := 7) sc_l_law.nd rfl (by first | exact Or.inl rfl | exact Or.inr rfl) (pp_call O_l_take (hr.mono (by decide)) (by rfl) m_l_take k_l_take b_l_take .nil pass0 (pq_k 1 (pv 1) (pq_c (pp_c pe_int) pq_n)) .nil))
    (ss_c (s_set (i := 8) sc_l_law.nd rfl (by first | exact Or.inl rfl | exact Or.inr rfl) (pp_call O_l_any (hr.mono (by decide)) (by rfl) m_l_any k_l_any b_l_any .nil pass0 (pq_k 1 (pv 1) pq_n) .nil))
    (ss_c (s_set (i := 9) sc_l_law.nd rfl (by first | exact Or.inl rfl | exact Or.inr rfl) (pp_2 op_add o_add (pp_c pe_int) (pp_call O_l_take (hr.mono (by decide)) (by rfl) m_l_take k_l_take b_l_take .nil pass0 (pq_k 1 (pv 1) (pq_c (pp_c pe_int) pq_n)) .nil)))
    (ss_c (s_set (i := 10) sc_l_law.nd rfl (by first | exact Or.inl rfl | exact Or.inr rfl) (pp_call O_l_made (hr.mono (by decide)) (by rfl) m_l_made k_l_made b_l_made .nil pass0 (pq_c (pp_ix rfl (pp_v 4 (pv 4)) (pp_c pe_int) (fun _ _ => rfl)) (pq_c (pp_ix rfl (pp_v 4 (pv 4)) (pp_c pe_int) (fun _ _ => rfl)) pq_n)) .nil))
    (ss_c (s_if (pp_tcmp op_isNN o_is (pp_v 10 (pv 10)) (pp_c pe_non) (nomark _))
    (ss_1 (s_ret (pp_c pe_bl)))
    ss_n)
    (ss_c (s_if (PW.pt (pp_wan (pp_tcmp op_le o_le (pp_c pe_int) (pp_ix rfl (pp_v 2 (pv 2)) (pp_c pe_int) (fun _ _ => rfl)) (nomark _)) (pp_wan (pp_tcmp op_lt o_lt (pp_ix rfl (pp_v 2 (pv 2)) (pp_c pe_int) (fun _ _ => rfl)) (pp_ix rfl (pp_v 2 (pv 2)) (pp_c pe_int) (fun _ _ => rfl)) (nomark _)) (pw_and1 (pp_tcmp op_le o_le (pp_ix rfl (pp_v 2 (pv 2)) (pp_c pe_int) (fun _ _ => rfl)) (pp_c pe_int) (nomark _))))))
    (ss_c (s_set (i := 11) sc_l_law.nd rfl (by first | exact Or.inl rfl | exact Or.inr rfl) (pp_call O_l_made (hr.mono (by decide)) (by rfl) m_l_made k_l_made b_l_made .nil pass0 (pq_c (pp_ix rfl (pp_v 2 (pv 2)) (pp_c pe_int) (fun _ _ => rfl)) (pq_c (pp_ix rfl (pp_v 2 (pv 2)) (pp_c pe_int) (fun _ _ => rfl)) pq_n)) .nil))
    (ss_c (s_if (pp_tno (pp_tval (pp_call O_l_whole_one (hr.mono (by decide)) (by rfl) m_l_whole_one k_l_whole_one b_l_whole_one .nil pass0 (pq_c (pp_v 11 (pv 11)) (pq_c (pp_v 2 (pv 2)) (pq_c (pp_v 5 (pv 5)) (pq_c (pp_v 6 (pv 6)) (pq_c (pp_v 7 (pv 7)) (pq_c (pp_v 8 (pv 8)) pq_n)))))) .nil)))
    (ss_1 (s_ret (pp_c pe_bl)))
    ss_n)
    (ss_1 (s_if (PW.pt (pp_woo (pp_tno (pp_tval (pp_call O_l_equals (hr.mono (by decide)) (by rfl) m_l_equals k_l_equals b_l_equals .nil pass0 (pq_c (pp_v 11 (pv 11)) (pq_c (pp_v 10 (pv 10)) (pq_c (pp_cmp (op_eqB hr.units) o_eq (pp_v 2 (pv 2)) (pp_v 4 (pv 4)) (nomark _)) pq_n))) .nil))) (pw_or1 (pp_tno (pp_tval (pp_call O_l_equals (hr.mono (by decide)) (by rfl) m_l_equals k_l_equals b_l_equals .nil pass0 (pq_c (pp_v 10 (pv 10)) (pq_c (pp_v 11 (pv 11)) (pq_c (pp_cmp (op_eqB hr.units) o_eq (pp_v 2 (pv 2)) (pp_v 4 (pv 4)) (nomark _)) pq_n))) .nil))))))
    (ss_1 (s_ret (pp_c pe_bl)))
    ss_n))))
    (ss_1 (s_if (pp_tno (pp_tval (pp_call O_l_refuses (hr.mono (by decide)) (by rfl) m_l_refuses k_l_refuses b_l_refuses .nil pass0 (pq_c (pp_ix rfl (pp_v 2 (pv 2)) (pp_c pe_int) (fun _ _ => rfl)) (pq_c (pp_ix rfl (pp_v 2 (pv 2)) (pp_c pe_int) (fun _ _ => rfl)) pq_n)) .nil)))
    (ss_1 (s_ret (pp_c pe_bl)))
    ss_n)))
    (ss_c (s_if (pp_tno (pp_tval (pp_call O_l_whole_one (hr.mono (by decide)) (by rfl) m_l_whole_one k_l_whole_one b_l_whole_one .nil pass0 (pq_c (pp_v 10 (pv 10)) (pq_c (pp_v 4 (pv 4)) (pq_c (pp_v 5 (pv 5)) (pq_c (pp_v 6 (pv 6)) (pq_c (pp_v 7 (pv 7)) (pq_c (pp_v 8 (pv 8)) pq_n)))))) .nil)))
    (ss_1 (s_ret (pp_c pe_bl)))
    ss_n)
    (ss_c (s_if (PW.pt (pp_woo (pp_tno (pp_tval (pp_call O_l_refuses (hr.mono (by decide)) (by rfl) m_l_refuses k_l_refuses b_l_refuses .nil pass0 (pq_c (pp_ix rfl (pp_v 4 (pv 4)) (pp_c pe_int) (fun _ _ => rfl)) (pq_c (pp_ix rfl (pp_v 4 (pv 4)) (pp_c pe_int) (fun _ _ => rfl)) pq_n)) .nil))) (pw_or1 (pp_tno (pp_tval (pp_call O_l_refuses (hr.mono (by decide)) (by rfl) m_l_refuses k_l_refuses b_l_refuses .nil pass0 (pq_c (pp_c pe_int) (pq_c (pp_ix rfl (pp_v 4 (pv 4)) (pp_c pe_int) (fun _ _ => rfl)) pq_n)) .nil))))))
    (ss_1 (s_ret (pp_c pe_bl)))
    ss_n)
    (ss_c (s_if (PW.pt (pp_woo (pp_tno (pp_tval (pp_call O_l_refuses (hr.mono (by decide)) (by rfl) m_l_refuses k_l_refuses b_l_refuses .nil pass0 (pq_c (pp_ix rfl (pp_v 4 (pv 4)) (pp_c pe_int) (fun _ _ => rfl)) (pq_c (pp_2 op_add o_add (pp_c pe_int) (pp_v 7 (pv 7))) pq_n)) .nil))) (pw_or1 (pp_tno (pp_tval (pp_call O_l_refuses (hr.mono (by decide)) (by rfl) m_l_refuses k_l_refuses b_l_refuses .nil pass0 (pq_c (pp_ix rfl (pp_v 4 (pv 4)) (pp_c pe_int) (fun _ _ => rfl)) (pq_c (pp_ix rfl (pp_v 4 (pv 4)) (pp_c pe_int) (fun _ _ => rfl)) pq_n)) .nil))))))
    (ss_1 (s_ret (pp_c pe_bl)))
    ss_n)
    (ss_c (s_if (PW.pt (pp_woo (pp_tno (pp_tval (pp_call O_l_int (hr.mono (by decide)) (by rfl) m_l_int k_l_int b_l_int .nil pass0 (pq_c (pp_cval .Lacquer T_Lacquer.mg T_Lacquer.cr T_Lacquer.v_MOST) pq_n) .nil))) (pw_or1 (pp_tcmp (op_neB hr.units) o_ne (pp_cval .Lacquer T_Lacquer.mg T_Lacquer.cr T_Lacquer.v_MOST) (pp_c pe_int) (nomark _)))))
    (ss_1 (s_ret (pp_c pe_bl)))
    ss_n)
    (ss_1 (s_ret (pp_van (pp_call O_l_yields (hr.mono (by decide)) (by rfl) m_l_yields k_l_yields b_l_yields .nil pass0 (pq_c (pp_v 9 (pv 9)) pq_n) .nil) (pp_van (pp_call O_l_yields (hr.mono (by decide)) (by rfl) m_l_yields k_l_yields b_l_yields .nil pass0 (pq_c (pp_2 op_sub o_sub (pp_c pe_int) (pp_v 9 (pv 9))) pq_n) .nil) (pe_one (pp_call O_l_yields (hr.mono (by decide)) (by rfl) m_l_yields k_l_yields b_l_yields .nil pass0 (pq_c (pp_v 9 (pv 9)) pq_n) .nil))))))))))))))))))))))
end
end DP
section
set_option maxHeartbeats 3900000
namespace DP
open PySem PySem.Spec PyProof.Rows L2 PL
def adOf (C_BadLacquer : Addr) (C_BadNumber : Addr) (C_DampError : Addr) (C_Lacquer : Addr) (C_TooLarge : Addr) : Cl → Addr
  | .BadLacquer => C_BadLacquer
  | .BadNumber => C_BadNumber
  | .DampError => C_DampError
  | .Lacquer => C_Lacquer
  | .TooLarge => C_TooLarge
  | _ => 0
theorem all_mk {l : PySem.W.OpenLaw} {w : World} {K : PySem.W.Frag} {h : Heap} {mg : Str → Option Value} {fa : Addr} (X : K.In h) (G : h.Ns mainGlobals mg) (hfa : mg "law" = some (.ref fa))
    {C_BadLacquer : Addr}
    {C_BadNumber : Addr}
    {C_DampError : Addr}
    {C_Lacquer : Addr}
    {tkc_Lacquer_v_MOST : Tok}
    {C_TooLarge : Addr}
    {f_l_take : Addr} {od_l_take an_l_take : Option Addr} {sl_l_take : Array (Option Value)} {oc_l_take kV_l_take dc_l_take pm_l_take cd_l_take ct_l_take : Value}
    {f_l_ab : Addr} {od_l_ab an_l_ab : Option Addr} {sl_l_ab : Array (Option Value)} {oc_l_ab kV_l_ab dc_l_ab pm_l_ab cd_l_ab ct_l_ab : Value}
    {f_l_far : Addr} {od_l_far an_l_far : Option Addr} {sl_l_far : Array (Option Value)} {oc_l_far kV_l_far dc_l_far pm_l_far cd_l_far ct_l_far : Value}
    {f_l_any : Addr} {od_l_any an_l_any : Option Addr} {sl_l_any : Array (Option Value)} {oc_l_any kV_l_any dc_l_any pm_l_any cd_l_any ct_l_any : Value}
    {f_l_cell : Addr} {od_l_cell an_l_cell : Option Addr} {sl_l_cell : Array (Option Value)} {oc_l_cell kV_l_cell dc_l_cell pm_l_cell cd_l_cell ct_l_cell : Value}
    {f_Lacquer_eq : Addr} {od_Lacquer_eq an_Lacquer_eq : Option Addr} {sl_Lacquer_eq : Array (Option Value)} {oc_Lacquer_eq kV_Lacquer_eq dc_Lacquer_eq pm_Lacquer_eq cd_Lacquer_eq ct_Lacquer_eq : Value}
    {f_l_equals : Addr} {od_l_equals an_l_equals : Option Addr} {sl_l_equals : Array (Option Value)} {oc_l_equals kV_l_equals dc_l_equals pm_l_equals cd_l_equals ct_l_equals : Value}
    {f_l_int : Addr} {od_l_int an_l_int : Option Addr} {sl_l_int : Array (Option Value)} {oc_l_int kV_l_int dc_l_int pm_l_int cd_l_int ct_l_int : Value}
    {f_Lacquer_init : Addr} {od_Lacquer_init an_Lacquer_init : Option Addr} {sl_Lacquer_init : Array (Option Value)} {oc_Lacquer_init kV_Lacquer_init dc_Lacquer_init pm_Lacquer_init cd_Lacquer_init ct_Lacquer_init : Value}
    {f_l_made : Addr} {od_l_made an_l_made : Option Addr} {sl_l_made : Array (Option Value)} {oc_l_made kV_l_made dc_l_made pm_l_made cd_l_made ct_l_made : Value}
    {f_l_pool : Addr} {od_l_pool an_l_pool : Option Addr} {sl_l_pool : Array (Option Value)} {oc_l_pool kV_l_pool dc_l_pool pm_l_pool cd_l_pool ct_l_pool : Value}
    {f_l_refuses : Addr} {od_l_refuses an_l_refuses : Option Addr} {sl_l_refuses : Array (Option Value)} {oc_l_refuses kV_l_refuses dc_l_refuses pm_l_refuses cd_l_refuses ct_l_refuses : Value}
    {f_Lacquer_slack : Addr} {od_Lacquer_slack an_Lacquer_slack : Option Addr} {sl_Lacquer_slack : Array (Option Value)} {oc_Lacquer_slack kV_Lacquer_slack dc_Lacquer_slack pm_Lacquer_slack cd_Lacquer_slack ct_Lacquer_slack : Value}
    {p_Lacquer_slack : Addr} {rest_Lacquer_slack : List Value}
    {f_f_ceil_div : Addr} {od_f_ceil_div an_f_ceil_div : Option Addr} {sl_f_ceil_div : Array (Option Value)} {oc_f_ceil_div kV_f_ceil_div dc_f_ceil_div pm_f_ceil_div cd_f_ceil_div ct_f_ceil_div : Value}
    {f_Lacquer_spans : Addr} {od_Lacquer_spans an_Lacquer_spans : Option Addr} {sl_Lacquer_spans : Array (Option Value)} {oc_Lacquer_spans kV_Lacquer_spans dc_Lacquer_spans pm_Lacquer_spans cd_Lacquer_spans ct_Lacquer_spans : Value}
    {f_Lacquer_lead : Addr} {od_Lacquer_lead an_Lacquer_lead : Option Addr} {sl_Lacquer_lead : Array (Option Value)} {oc_Lacquer_lead kV_Lacquer_lead dc_Lacquer_lead pm_Lacquer_lead cd_Lacquer_lead ct_Lacquer_lead : Value}
    {f_Lacquer_turns : Addr} {od_Lacquer_turns an_Lacquer_turns : Option Addr} {sl_Lacquer_turns : Array (Option Value)} {oc_Lacquer_turns kV_Lacquer_turns dc_Lacquer_turns pm_Lacquer_turns cd_Lacquer_turns ct_Lacquer_turns : Value}
    {f_l_bars : Addr} {od_l_bars an_l_bars : Option Addr} {sl_l_bars : Array (Option Value)} {oc_l_bars kV_l_bars dc_l_bars pm_l_bars cd_l_bars ct_l_bars : Value}
    {f_l_least : Addr} {od_l_least an_l_least : Option Addr} {sl_l_least : Array (Option Value)} {oc_l_least kV_l_least dc_l_least pm_l_least cd_l_least ct_l_least : Value}
    {f_l_counts : Addr} {od_l_counts an_l_counts : Option Addr} {sl_l_counts : Array (Option Value)} {oc_l_counts kV_l_counts dc_l_counts pm_l_counts cd_l_counts ct_l_counts : Value}
    {f_l_numbers : Addr} {od_l_numbers an_l_numbers : Option Addr} {sl_l_numbers : Array (Option Value)} {oc_l_numbers kV_l_numbers dc_l_numbers pm_l_numbers cd_l_numbers ct_l_numbers : Value}
    {f_Lacquer_contains : Addr} {od_Lacquer_contains an_Lacquer_contains : Option Addr} {sl_Lacquer_contains : Array (Option Value)} {oc_Lacquer_contains kV_Lacquer_contains dc_Lacquer_contains pm_Lacquer_contains cd_Lacquer_contains ct_Lacquer_contains : Value}
    {f_l_steps : Addr} {od_l_steps an_l_steps : Option Addr} {sl_l_steps : Array (Option Value)} {oc_l_steps kV_l_steps dc_l_steps pm_l_steps cd_l_steps ct_l_steps : Value}
    {f_l_whole_one : Addr} {od_l_whole_one an_l_whole_one : Option Addr} {sl_l_whole_one : Array (Option Value)} {oc_l_whole_one kV_l_whole_one dc_l_whole_one pm_l_whole_one cd_l_whole_one ct_l_whole_one : Value}
    {f_f_lacquers : Addr} {od_f_lacquers an_f_lacquers : Option Addr} {sl_f_lacquers : Array (Option Value)} {oc_f_lacquers kV_f_lacquers dc_f_lacquers pm_f_lacquers cd_f_lacquers ct_f_lacquers : Value}
    {f_l_yields : Addr} {od_l_yields an_l_yields : Option Addr} {sl_l_yields : Array (Option Value)} {oc_l_yields kV_l_yields dc_l_yields pm_l_yields cd_l_yields ct_l_yields : Value}
    {f_l_law : Addr} {od_l_law an_l_law : Option Addr} {sl_l_law : Array (Option Value)} {oc_l_law kV_l_law dc_l_law pm_l_law cd_l_law ct_l_law : Value}
    (a_BadLacquer : PySem.W.nsIn K mainGlobals "BadLacquer" = some (some (.ref C_BadLacquer)))
    (c_BadLacquer_x : PySem.W.excIn K C_BadLacquer [.type "ValueError", .type "Exception", .type "BaseException", .type "object"] "ValueError.__new__" = true)
    (c_BadLacquer_kp : PySem.W.keepIn K (.ref C_BadLacquer) = true)
    (c_BadLacquer_b : PySem.W.subIn K (.ref C_BadLacquer) (.type "BaseException") = some true)
    (c_BadLacquer_t : PySem.W.typeIn K (.ref C_BadLacquer) = some (.type "type"))
    (c_BadLacquer_i : PySem.W.isClsIn K C_BadLacquer = true)
    (c_BadLacquer_s : PySem.W.subIn K (.ref C_BadLacquer) (.ref C_BadLacquer) = some true)
    (c_BadLacquer_hg : PySem.W.findIn K (.ref C_BadLacquer) "__getattribute__" = some (some (.builtin "BaseException.__getattribute__")))
    (c_BadLacquer_hk : PySem.W.findIn K (.ref C_BadLacquer) "__getattr__" = some none)
    (c_BadLacquer_hd : PySem.W.hasDictIn K C_BadLacquer = true)
    (c_BadLacquer_ha : PySem.W.findIn K (.ref C_BadLacquer) "__class__" = some (some (.builtin "object.__class__")))
    (c_BadLacquer_hn : PySem.W.specialIn K (.builtin "object.__class__") "__get__" = some (some (.builtin "getset_descriptor.__get__")))
    (c_BadLacquer_ht : PySem.W.takesIn K (.builtin "object.__class__") = some true)
    (c_BadLacquer_hm : PySem.W.mroIn K C_BadLacquer (.type "object") = some true)
    (a_BadNumber : PySem.W.nsIn K mainGlobals "BadNumber" = some (some (.ref C_BadNumber)))
    (c_BadNumber_x : PySem.W.excIn K C_BadNumber [.type "ValueError", .type "Exception", .type "BaseException", .type "object"] "ValueError.__new__" = true)
    (c_BadNumber_kp : PySem.W.keepIn K (.ref C_BadNumber) = true)
    (c_BadNumber_b : PySem.W.subIn K (.ref C_BadNumber) (.type "BaseException") = some true)
    (c_BadNumber_t : PySem.W.typeIn K (.ref C_BadNumber) = some (.type "type"))
    (c_BadNumber_i : PySem.W.isClsIn K C_BadNumber = true)
    (c_BadNumber_s : PySem.W.subIn K (.ref C_BadNumber) (.ref C_BadNumber) = some true)
    (c_BadNumber_hg : PySem.W.findIn K (.ref C_BadNumber) "__getattribute__" = some (some (.builtin "BaseException.__getattribute__")))
    (c_BadNumber_hk : PySem.W.findIn K (.ref C_BadNumber) "__getattr__" = some none)
    (c_BadNumber_hd : PySem.W.hasDictIn K C_BadNumber = true)
    (c_BadNumber_ha : PySem.W.findIn K (.ref C_BadNumber) "__class__" = some (some (.builtin "object.__class__")))
    (c_BadNumber_hn : PySem.W.specialIn K (.builtin "object.__class__") "__get__" = some (some (.builtin "getset_descriptor.__get__")))
    (c_BadNumber_ht : PySem.W.takesIn K (.builtin "object.__class__") = some true)
    (c_BadNumber_hm : PySem.W.mroIn K C_BadNumber (.type "object") = some true)
    (a_DampError : PySem.W.nsIn K mainGlobals "DampError" = some (some (.ref C_DampError)))
    (c_DampError_x : PySem.W.excIn K C_DampError [.type "ValueError", .type "Exception", .type "BaseException", .type "object"] "ValueError.__new__" = true)
    (c_DampError_kp : PySem.W.keepIn K (.ref C_DampError) = true)
    (c_DampError_b : PySem.W.subIn K (.ref C_DampError) (.type "BaseException") = some true)
    (c_DampError_t : PySem.W.typeIn K (.ref C_DampError) = some (.type "type"))
    (c_DampError_i : PySem.W.isClsIn K C_DampError = true)
    (c_DampError_s : PySem.W.subIn K (.ref C_DampError) (.ref C_DampError) = some true)
    (c_DampError_hg : PySem.W.findIn K (.ref C_DampError) "__getattribute__" = some (some (.builtin "BaseException.__getattribute__")))
    (c_DampError_hk : PySem.W.findIn K (.ref C_DampError) "__getattr__" = some none)
    (c_DampError_hd : PySem.W.hasDictIn K C_DampError = true)
    (c_DampError_ha : PySem.W.findIn K (.ref C_DampError) "__class__" = some (some (.builtin "object.__class__")))
    (c_DampError_hn : PySem.W.specialIn K (.builtin "object.__class__") "__get__" = some (some (.builtin "getset_descriptor.__get__")))
    (c_DampError_ht : PySem.W.takesIn K (.builtin "object.__class__") = some true)
    (c_DampError_hm : PySem.W.mroIn K C_DampError (.type "object") = some true)
    (a_Lacquer : PySem.W.nsIn K mainGlobals "Lacquer" = some (some (.ref C_Lacquer)))
    (c_Lacquer_pg : PySem.W.plainGet K C_Lacquer Str.empty = true)
    (c_Lacquer_hd : PySem.W.hasDictIn K C_Lacquer = true)
    (c_Lacquer_po : PySem.W.plainOver K C_Lacquer = true)
    (c_Lacquer_sa : PySem.W.findIn K (.ref C_Lacquer) "__setattr__" = some (some (.builtin "object.__setattr__")))
    (c_Lacquer_sf : PySem.W.selfFirst K C_Lacquer = true)
    (c_Lacquer_nf : PySem.W.notFirst K C_Lacquer (.ref C_Lacquer) = true)
    (c_Lacquer_ha : PySem.W.findIn K (.ref C_Lacquer) "__class__" = some (some (.builtin "object.__class__")))
    (c_Lacquer_hn : PySem.W.specialIn K (.builtin "object.__class__") "__get__" = some (some (.builtin "getset_descriptor.__get__")))
    (c_Lacquer_ht : PySem.W.takesIn K (.builtin "object.__class__") = some true)
    (c_Lacquer_hm : PySem.W.mroIn K C_Lacquer (.type "object") = some true)
    (c_Lacquer_kp : PySem.W.keepIn K (.ref C_Lacquer) = true)
    (c_Lacquer_mkk : PySem.W.makesIn K C_Lacquer = true)
    (c_Lacquer_v_MOST : PySem.W.findCls K (.ref C_Lacquer) (.type "type") "MOST" = some (.val (.int 12 tkc_Lacquer_v_MOST)))
    (c_Lacquer_rd : PySem.W.readsIn K C_Lacquer (.type "type") = true)
    (c_Lacquer_ga : PySem.W.specialIn K (.ref C_Lacquer) "__getattribute__" = some (some (.builtin "type.__getattribute__")))
    (c_Lacquer_n_a : PySem.W.findIn K (.ref C_Lacquer) "a" = some none)
    (c_Lacquer_n_b : PySem.W.findIn K (.ref C_Lacquer) "b" = some none)
    (a_TooLarge : PySem.W.nsIn K mainGlobals "TooLarge" = some (some (.ref C_TooLarge)))
    (c_TooLarge_x : PySem.W.excIn K C_TooLarge [.type "ValueError", .type "Exception", .type "BaseException", .type "object"] "ValueError.__new__" = true)
    (c_TooLarge_kp : PySem.W.keepIn K (.ref C_TooLarge) = true)
    (c_TooLarge_b : PySem.W.subIn K (.ref C_TooLarge) (.type "BaseException") = some true)
    (c_TooLarge_t : PySem.W.typeIn K (.ref C_TooLarge) = some (.type "type"))
    (c_TooLarge_i : PySem.W.isClsIn K C_TooLarge = true)
    (c_TooLarge_s : PySem.W.subIn K (.ref C_TooLarge) (.ref C_TooLarge) = some true)
    (c_TooLarge_hg : PySem.W.findIn K (.ref C_TooLarge) "__getattribute__" = some (some (.builtin "BaseException.__getattribute__")))
    (c_TooLarge_hk : PySem.W.findIn K (.ref C_TooLarge) "__getattr__" = some none)
    (c_TooLarge_hd : PySem.W.hasDictIn K C_TooLarge = true)
    (c_TooLarge_ha : PySem.W.findIn K (.ref C_TooLarge) "__class__" = some (some (.builtin "object.__class__")))
    (c_TooLarge_hn : PySem.W.specialIn K (.builtin "object.__class__") "__get__" = some (some (.builtin "getset_descriptor.__get__")))
    (c_TooLarge_ht : PySem.W.takesIn K (.builtin "object.__class__") = some true)
    (c_TooLarge_hm : PySem.W.mroIn K C_TooLarge (.type "object") = some true)
    (kit_BadLacquer_BadNumber : PySem.W.kitOne K (.ref C_BadLacquer) (.ref C_BadNumber) = some false)
    (kit_BadLacquer_DampError : PySem.W.kitOne K (.ref C_BadLacquer) (.ref C_DampError) = some true)
    (kit_BadLacquer_TooLarge : PySem.W.kitOne K (.ref C_BadLacquer) (.ref C_TooLarge) = some false)
    (kit_BadLacquer_ValueError : PySem.W.kitOne K (.ref C_BadLacquer) (.type "ValueError") = some true)
    (kit_BadNumber_BadLacquer : PySem.W.kitOne K (.ref C_BadNumber) (.ref C_BadLacquer) = some false)
    (kit_BadNumber_DampError : PySem.W.kitOne K (.ref C_BadNumber) (.ref C_DampError) = some true)
    (kit_BadNumber_TooLarge : PySem.W.kitOne K (.ref C_BadNumber) (.ref C_TooLarge) = some false)
    (kit_BadNumber_ValueError : PySem.W.kitOne K (.ref C_BadNumber) (.type "ValueError") = some true)
    (kit_Lacquer_Lacquer : PySem.W.kitOne K (.ref C_Lacquer) (.ref C_Lacquer) = some true)
    (kit_NoneType_Lacquer : PySem.W.kitOne K (.type "NoneType") (.ref C_Lacquer) = some false)
    (kit_bool_bool : PySem.W.kitOne K (.type "bool") (.type "bool") = some true)
    (kit_int_bool : PySem.W.kitOne K (.type "int") (.type "bool") = some false)
    (kit_int_int : PySem.W.kitOne K (.type "int") (.type "int") = some true)
    (xm_BadLacquer_BadLacquer : PySem.W.exmOne K (.ref C_BadLacquer) (.ref C_BadLacquer) = some true)
    (xm_BadLacquer_BadNumber : PySem.W.exmOne K (.ref C_BadLacquer) (.ref C_BadNumber) = some false)
    (xm_BadNumber_BadLacquer : PySem.W.exmOne K (.ref C_BadNumber) (.ref C_BadLacquer) = some false)
    (xm_BadNumber_BadNumber : PySem.W.exmOne K (.ref C_BadNumber) (.ref C_BadNumber) = some true)
    (xm_DampError_BadLacquer : PySem.W.exmOne K (.ref C_DampError) (.ref C_BadLacquer) = some false)
    (xm_DampError_BadNumber : PySem.W.exmOne K (.ref C_DampError) (.ref C_BadNumber) = some false)
    (xm_TooLarge_BadLacquer : PySem.W.exmOne K (.ref C_TooLarge) (.ref C_BadLacquer) = some false)
    (xm_TooLarge_BadNumber : PySem.W.exmOne K (.ref C_TooLarge) (.ref C_BadNumber) = some false)
    (y_ValueError : PySem.W.nsIn K mainGlobals "ValueError" = some none)
    (y_bool : PySem.W.nsIn K mainGlobals "bool" = some none)
    (y_int : PySem.W.nsIn K mainGlobals "int" = some none)
    (y_isinstance : PySem.W.nsIn K mainGlobals "isinstance" = some none)
    (y_len : PySem.W.nsIn K mainGlobals "len" = some none)
    (y_list : PySem.W.nsIn K mainGlobals "list" = some none)
    (y_range : PySem.W.nsIn K mainGlobals "range" = some none)
    (y_sorted : PySem.W.nsIn K mainGlobals "sorted" = some none)
    (a_l_take : PySem.W.nsIn K mainGlobals "_law_take" = some (some (.ref f_l_take)))
    (l_l_take : K.lookup f_l_take = some ⟨oc_l_take, od_l_take, .func (PySem.W.fnOf "_law_take" "_law_take" (defArgs s_l_take) (defBody s_l_take) (defScope s_l_take) .none kV_l_take dc_l_take pm_l_take an_l_take cd_l_take ct_l_take), sl_l_take⟩)
    (e_l_take : PySem.W.codeIn K cd_l_take "_law_take" = true)
    (k_l_take : PySem.W.keepIn K (.ref f_l_take) = true)
    (a_l_ab : PySem.W.nsIn K mainGlobals "_law_ab" = some (some (.ref f_l_ab)))
    (l_l_ab : K.lookup f_l_ab = some ⟨oc_l_ab, od_l_ab, .func (PySem.W.fnOf "_law_ab" "_law_ab" (defArgs s_l_ab) (defBody s_l_ab) (defScope s_l_ab) .none kV_l_ab dc_l_ab pm_l_ab an_l_ab cd_l_ab ct_l_ab), sl_l_ab⟩)
    (e_l_ab : PySem.W.codeIn K cd_l_ab "_law_ab" = true)
    (k_l_ab : PySem.W.keepIn K (.ref f_l_ab) = true)
    (a_l_far : PySem.W.nsIn K mainGlobals "_law_far" = some (some (.ref f_l_far)))
    (l_l_far : K.lookup f_l_far = some ⟨oc_l_far, od_l_far, .func (PySem.W.fnOf "_law_far" "_law_far" (defArgs s_l_far) (defBody s_l_far) (defScope s_l_far) .none kV_l_far dc_l_far pm_l_far an_l_far cd_l_far ct_l_far), sl_l_far⟩)
    (e_l_far : PySem.W.codeIn K cd_l_far "_law_far" = true)
    (k_l_far : PySem.W.keepIn K (.ref f_l_far) = true)
    (a_l_any : PySem.W.nsIn K mainGlobals "_law_any" = some (some (.ref f_l_any)))
    (l_l_any : K.lookup f_l_any = some ⟨oc_l_any, od_l_any, .func (PySem.W.fnOf "_law_any" "_law_any" (defArgs s_l_any) (defBody s_l_any) (defScope s_l_any) .none kV_l_any dc_l_any pm_l_any an_l_any cd_l_any ct_l_any), sl_l_any⟩)
    (e_l_any : PySem.W.codeIn K cd_l_any "_law_any" = true)
    (k_l_any : PySem.W.keepIn K (.ref f_l_any) = true)
    (a_l_cell : PySem.W.nsIn K mainGlobals "_law_cell" = some (some (.ref f_l_cell)))
    (l_l_cell : K.lookup f_l_cell = some ⟨oc_l_cell, od_l_cell, .func (PySem.W.fnOf "_law_cell" "_law_cell" (defArgs s_l_cell) (defBody s_l_cell) (defScope s_l_cell) .none kV_l_cell dc_l_cell pm_l_cell an_l_cell cd_l_cell ct_l_cell), sl_l_cell⟩)
    (e_l_cell : PySem.W.codeIn K cd_l_cell "_law_cell" = true)
    (k_l_cell : PySem.W.keepIn K (.ref f_l_cell) = true)
    (a_Lacquer_eq : PySem.W.findIn K (.ref C_Lacquer) "__eq__" = some (some (.ref f_Lacquer_eq)))
    (j_Lacquer_eq : PySem.W.isFn K (.ref f_Lacquer_eq) = true)
    (l_Lacquer_eq : K.lookup f_Lacquer_eq = some ⟨oc_Lacquer_eq, od_Lacquer_eq, .func (PySem.W.fnOf "__eq__" "Lacquer.__eq__" (defArgs s_Lacquer_eq) (defBody s_Lacquer_eq) (defScope s_Lacquer_eq) .none kV_Lacquer_eq dc_Lacquer_eq pm_Lacquer_eq an_Lacquer_eq cd_Lacquer_eq ct_Lacquer_eq), sl_Lacquer_eq⟩)
    (e_Lacquer_eq : PySem.W.codeIn K cd_Lacquer_eq "Lacquer.__eq__" = true)
    (k_Lacquer_eq : PySem.W.keepIn K (.ref f_Lacquer_eq) = true)
    (a_l_equals : PySem.W.nsIn K mainGlobals "_law_equals" = some (some (.ref f_l_equals)))
    (l_l_equals : K.lookup f_l_equals = some ⟨oc_l_equals, od_l_equals, .func (PySem.W.fnOf "_law_equals" "_law_equals" (defArgs s_l_equals) (defBody s_l_equals) (defScope s_l_equals) .none kV_l_equals dc_l_equals pm_l_equals an_l_equals cd_l_equals ct_l_equals), sl_l_equals⟩)
    (e_l_equals : PySem.W.codeIn K cd_l_equals "_law_equals" = true)
    (k_l_equals : PySem.W.keepIn K (.ref f_l_equals) = true)
    (a_l_int : PySem.W.nsIn K mainGlobals "_law_int" = some (some (.ref f_l_int)))
    (l_l_int : K.lookup f_l_int = some ⟨oc_l_int, od_l_int, .func (PySem.W.fnOf "_law_int" "_law_int" (defArgs s_l_int) (defBody s_l_int) (defScope s_l_int) .none kV_l_int dc_l_int pm_l_int an_l_int cd_l_int ct_l_int), sl_l_int⟩)
    (e_l_int : PySem.W.codeIn K cd_l_int "_law_int" = true)
    (k_l_int : PySem.W.keepIn K (.ref f_l_int) = true)
    (a_Lacquer_init : PySem.W.findIn K (.ref C_Lacquer) "__init__" = some (some (.ref f_Lacquer_init)))
    (j_Lacquer_init : PySem.W.isFn K (.ref f_Lacquer_init) = true)
    (l_Lacquer_init : K.lookup f_Lacquer_init = some ⟨oc_Lacquer_init, od_Lacquer_init, .func (PySem.W.fnOf "__init__" "Lacquer.__init__" (defArgs s_Lacquer_init) (defBody s_Lacquer_init) (defScope s_Lacquer_init) .none kV_Lacquer_init dc_Lacquer_init pm_Lacquer_init an_Lacquer_init cd_Lacquer_init ct_Lacquer_init), sl_Lacquer_init⟩)
    (e_Lacquer_init : PySem.W.codeIn K cd_Lacquer_init "Lacquer.__init__" = true)
    (k_Lacquer_init : PySem.W.keepIn K (.ref f_Lacquer_init) = true)
    (a_l_made : PySem.W.nsIn K mainGlobals "_law_made" = some (some (.ref f_l_made)))
    (l_l_made : K.lookup f_l_made = some ⟨oc_l_made, od_l_made, .func (PySem.W.fnOf "_law_made" "_law_made" (defArgs s_l_made) (defBody s_l_made) (defScope s_l_made) .none kV_l_made dc_l_made pm_l_made an_l_made cd_l_made ct_l_made), sl_l_made⟩)
    (e_l_made : PySem.W.codeIn K cd_l_made "_law_made" = true)
    (k_l_made : PySem.W.keepIn K (.ref f_l_made) = true)
    (a_l_pool : PySem.W.nsIn K mainGlobals "_law_pool" = some (some (.ref f_l_pool)))
    (l_l_pool : K.lookup f_l_pool = some ⟨oc_l_pool, od_l_pool, .func (PySem.W.fnOf "_law_pool" "_law_pool" (defArgs s_l_pool) (defBody s_l_pool) (defScope s_l_pool) .none kV_l_pool dc_l_pool pm_l_pool an_l_pool cd_l_pool ct_l_pool), sl_l_pool⟩)
    (e_l_pool : PySem.W.codeIn K cd_l_pool "_law_pool" = true)
    (k_l_pool : PySem.W.keepIn K (.ref f_l_pool) = true)
    (a_l_refuses : PySem.W.nsIn K mainGlobals "_law_refuses" = some (some (.ref f_l_refuses)))
    (l_l_refuses : K.lookup f_l_refuses = some ⟨oc_l_refuses, od_l_refuses, .func (PySem.W.fnOf "_law_refuses" "_law_refuses" (defArgs s_l_refuses) (defBody s_l_refuses) (defScope s_l_refuses) .none kV_l_refuses dc_l_refuses pm_l_refuses an_l_refuses cd_l_refuses ct_l_refuses), sl_l_refuses⟩)
    (e_l_refuses : PySem.W.codeIn K cd_l_refuses "_law_refuses" = true)
    (k_l_refuses : PySem.W.keepIn K (.ref f_l_refuses) = true)
    (a_Lacquer_slack : PySem.W.findIn K (.ref C_Lacquer) "slack" = some (some (.ref p_Lacquer_slack)))
    (pg_Lacquer_slack : PySem.W.specialIn K (.ref p_Lacquer_slack) "__get__" = some (some (.builtin "property.__get__")))
    (pt_Lacquer_slack : PySem.W.takesIn K (.ref p_Lacquer_slack) = some true)
    (pr_Lacquer_slack : PySem.W.recIn K p_Lacquer_slack "property" = some (.ref f_Lacquer_slack :: rest_Lacquer_slack))
    (l_Lacquer_slack : K.lookup f_Lacquer_slack = some ⟨oc_Lacquer_slack, od_Lacquer_slack, .func (PySem.W.fnOf "slack" "Lacquer.slack" (defArgs s_Lacquer_slack) (defBody s_Lacquer_slack) (defScope s_Lacquer_slack) .none kV_Lacquer_slack dc_Lacquer_slack pm_Lacquer_slack an_Lacquer_slack cd_Lacquer_slack ct_Lacquer_slack), sl_Lacquer_slack⟩)
    (e_Lacquer_slack : PySem.W.codeIn K cd_Lacquer_slack "Lacquer.slack" = true)
    (k_Lacquer_slack : PySem.W.keepIn K (.ref f_Lacquer_slack) = true)
    (a_f_ceil_div : PySem.W.nsIn K mainGlobals "ceil_div" = some (some (.ref f_f_ceil_div)))
    (l_f_ceil_div : K.lookup f_f_ceil_div = some ⟨oc_f_ceil_div, od_f_ceil_div, .func (PySem.W.fnOf "ceil_div" "ceil_div" (defArgs s_f_ceil_div) (defBody s_f_ceil_div) (defScope s_f_ceil_div) .none kV_f_ceil_div dc_f_ceil_div pm_f_ceil_div an_f_ceil_div cd_f_ceil_div ct_f_ceil_div), sl_f_ceil_div⟩)
    (e_f_ceil_div : PySem.W.codeIn K cd_f_ceil_div "ceil_div" = true)
    (k_f_ceil_div : PySem.W.keepIn K (.ref f_f_ceil_div) = true)
    (a_Lacquer_spans : PySem.W.findIn K (.ref C_Lacquer) "spans" = some (some (.ref f_Lacquer_spans)))
    (j_Lacquer_spans : PySem.W.isFn K (.ref f_Lacquer_spans) = true)
    (l_Lacquer_spans : K.lookup f_Lacquer_spans = some ⟨oc_Lacquer_spans, od_Lacquer_spans, .func (PySem.W.fnOf "spans" "Lacquer.spans" (defArgs s_Lacquer_spans) (defBody s_Lacquer_spans) (defScope s_Lacquer_spans) .none kV_Lacquer_spans dc_Lacquer_spans pm_Lacquer_spans an_Lacquer_spans cd_Lacquer_spans ct_Lacquer_spans), sl_Lacquer_spans⟩)
    (e_Lacquer_spans : PySem.W.codeIn K cd_Lacquer_spans "Lacquer.spans" = true)
    (k_Lacquer_spans : PySem.W.keepIn K (.ref f_Lacquer_spans) = true)
    (a_Lacquer_lead : PySem.W.findIn K (.ref C_Lacquer) "lead" = some (some (.ref f_Lacquer_lead)))
    (j_Lacquer_lead : PySem.W.isFn K (.ref f_Lacquer_lead) = true)
    (l_Lacquer_lead : K.lookup f_Lacquer_lead = some ⟨oc_Lacquer_lead, od_Lacquer_lead, .func (PySem.W.fnOf "lead" "Lacquer.lead" (defArgs s_Lacquer_lead) (defBody s_Lacquer_lead) (defScope s_Lacquer_lead) .none kV_Lacquer_lead dc_Lacquer_lead pm_Lacquer_lead an_Lacquer_lead cd_Lacquer_lead ct_Lacquer_lead), sl_Lacquer_lead⟩)
    (e_Lacquer_lead : PySem.W.codeIn K cd_Lacquer_lead "Lacquer.lead" = true)
    (k_Lacquer_lead : PySem.W.keepIn K (.ref f_Lacquer_lead) = true)
    (a_Lacquer_turns : PySem.W.findIn K (.ref C_Lacquer) "turns" = some (some (.ref f_Lacquer_turns)))
    (j_Lacquer_turns : PySem.W.isFn K (.ref f_Lacquer_turns) = true)
    (l_Lacquer_turns : K.lookup f_Lacquer_turns = some ⟨oc_Lacquer_turns, od_Lacquer_turns, .func (PySem.W.fnOf "turns" "Lacquer.turns" (defArgs s_Lacquer_turns) (defBody s_Lacquer_turns) (defScope s_Lacquer_turns) .none kV_Lacquer_turns dc_Lacquer_turns pm_Lacquer_turns an_Lacquer_turns cd_Lacquer_turns ct_Lacquer_turns), sl_Lacquer_turns⟩)
    (e_Lacquer_turns : PySem.W.codeIn K cd_Lacquer_turns "Lacquer.turns" = true)
    (k_Lacquer_turns : PySem.W.keepIn K (.ref f_Lacquer_turns) = true)
    (a_l_bars : PySem.W.nsIn K mainGlobals "_law_bars" = some (some (.ref f_l_bars)))
    (l_l_bars : K.lookup f_l_bars = some ⟨oc_l_bars, od_l_bars, .func (PySem.W.fnOf "_law_bars" "_law_bars" (defArgs s_l_bars) (defBody s_l_bars) (defScope s_l_bars) .none kV_l_bars dc_l_bars pm_l_bars an_l_bars cd_l_bars ct_l_bars), sl_l_bars⟩)
    (e_l_bars : PySem.W.codeIn K cd_l_bars "_law_bars" = true)
    (k_l_bars : PySem.W.keepIn K (.ref f_l_bars) = true)
    (a_l_least : PySem.W.nsIn K mainGlobals "_law_least" = some (some (.ref f_l_least)))
    (l_l_least : K.lookup f_l_least = some ⟨oc_l_least, od_l_least, .func (PySem.W.fnOf "_law_least" "_law_least" (defArgs s_l_least) (defBody s_l_least) (defScope s_l_least) .none kV_l_least dc_l_least pm_l_least an_l_least cd_l_least ct_l_least), sl_l_least⟩)
    (e_l_least : PySem.W.codeIn K cd_l_least "_law_least" = true)
    (k_l_least : PySem.W.keepIn K (.ref f_l_least) = true)
    (a_l_counts : PySem.W.nsIn K mainGlobals "_law_counts" = some (some (.ref f_l_counts)))
    (l_l_counts : K.lookup f_l_counts = some ⟨oc_l_counts, od_l_counts, .func (PySem.W.fnOf "_law_counts" "_law_counts" (defArgs s_l_counts) (defBody s_l_counts) (defScope s_l_counts) .none kV_l_counts dc_l_counts pm_l_counts an_l_counts cd_l_counts ct_l_counts), sl_l_counts⟩)
    (e_l_counts : PySem.W.codeIn K cd_l_counts "_law_counts" = true)
    (k_l_counts : PySem.W.keepIn K (.ref f_l_counts) = true)
    (a_l_numbers : PySem.W.nsIn K mainGlobals "_law_numbers" = some (some (.ref f_l_numbers)))
    (l_l_numbers : K.lookup f_l_numbers = some ⟨oc_l_numbers, od_l_numbers, .func (PySem.W.fnOf "_law_numbers" "_law_numbers" (defArgs s_l_numbers) (defBody s_l_numbers) (defScope s_l_numbers) .none kV_l_numbers dc_l_numbers pm_l_numbers an_l_numbers cd_l_numbers ct_l_numbers), sl_l_numbers⟩)
    (e_l_numbers : PySem.W.codeIn K cd_l_numbers "_law_numbers" = true)
    (k_l_numbers : PySem.W.keepIn K (.ref f_l_numbers) = true)
    (a_Lacquer_contains : PySem.W.findIn K (.ref C_Lacquer) "__contains__" = some (some (.ref f_Lacquer_contains)))
    (j_Lacquer_contains : PySem.W.isFn K (.ref f_Lacquer_contains) = true)
    (l_Lacquer_contains : K.lookup f_Lacquer_contains = some ⟨oc_Lacquer_contains, od_Lacquer_contains, .func (PySem.W.fnOf "__contains__" "Lacquer.__contains__" (defArgs s_Lacquer_contains) (defBody s_Lacquer_contains) (defScope s_Lacquer_contains) .none kV_Lacquer_contains dc_Lacquer_contains pm_Lacquer_contains an_Lacquer_contains cd_Lacquer_contains ct_Lacquer_contains), sl_Lacquer_contains⟩)
    (e_Lacquer_contains : PySem.W.codeIn K cd_Lacquer_contains "Lacquer.__contains__" = true)
    (k_Lacquer_contains : PySem.W.keepIn K (.ref f_Lacquer_contains) = true)
    (a_l_steps : PySem.W.nsIn K mainGlobals "_law_steps" = some (some (.ref f_l_steps)))
    (l_l_steps : K.lookup f_l_steps = some ⟨oc_l_steps, od_l_steps, .func (PySem.W.fnOf "_law_steps" "_law_steps" (defArgs s_l_steps) (defBody s_l_steps) (defScope s_l_steps) .none kV_l_steps dc_l_steps pm_l_steps an_l_steps cd_l_steps ct_l_steps), sl_l_steps⟩)
    (e_l_steps : PySem.W.codeIn K cd_l_steps "_law_steps" = true)
    (k_l_steps : PySem.W.keepIn K (.ref f_l_steps) = true)
    (a_l_whole_one : PySem.W.nsIn K mainGlobals "_law_whole_one" = some (some (.ref f_l_whole_one)))
    (l_l_whole_one : K.lookup f_l_whole_one = some ⟨oc_l_whole_one, od_l_whole_one, .func (PySem.W.fnOf "_law_whole_one" "_law_whole_one" (defArgs s_l_whole_one) (defBody s_l_whole_one) (defScope s_l_whole_one) .none kV_l_whole_one dc_l_whole_one pm_l_whole_one an_l_whole_one cd_l_whole_one ct_l_whole_one), sl_l_whole_one⟩)
    (e_l_whole_one : PySem.W.codeIn K cd_l_whole_one "_law_whole_one" = true)
    (k_l_whole_one : PySem.W.keepIn K (.ref f_l_whole_one) = true)
    (a_f_lacquers : PySem.W.nsIn K mainGlobals "lacquers" = some (some (.ref f_f_lacquers)))
    (l_f_lacquers : K.lookup f_f_lacquers = some ⟨oc_f_lacquers, od_f_lacquers, .func (PySem.W.fnOf "lacquers" "lacquers" (defArgs s_f_lacquers) (defBody s_f_lacquers) (defScope s_f_lacquers) .none kV_f_lacquers dc_f_lacquers pm_f_lacquers an_f_lacquers cd_f_lacquers ct_f_lacquers), sl_f_lacquers⟩)
    (e_f_lacquers : PySem.W.codeIn K cd_f_lacquers "lacquers" = true)
    (k_f_lacquers : PySem.W.keepIn K (.ref f_f_lacquers) = true)
    (a_l_yields : PySem.W.nsIn K mainGlobals "_law_yields" = some (some (.ref f_l_yields)))
    (l_l_yields : K.lookup f_l_yields = some ⟨oc_l_yields, od_l_yields, .func (PySem.W.fnOf "_law_yields" "_law_yields" (defArgs s_l_yields) (defBody s_l_yields) (defScope s_l_yields) .none kV_l_yields dc_l_yields pm_l_yields an_l_yields cd_l_yields ct_l_yields), sl_l_yields⟩)
    (e_l_yields : PySem.W.codeIn K cd_l_yields "_law_yields" = true)
    (k_l_yields : PySem.W.keepIn K (.ref f_l_yields) = true)
    (a_l_law : PySem.W.nsIn K mainGlobals "law" = some (some (.ref f_l_law)))
    (l_l_law : K.lookup f_l_law = some ⟨oc_l_law, od_l_law, .func (PySem.W.fnOf "law" "law" (defArgs s_l_law) (defBody s_l_law) (defScope s_l_law) .none kV_l_law dc_l_law pm_l_law an_l_law cd_l_law ct_l_law), sl_l_law⟩)
    (e_l_law : PySem.W.codeIn K cd_l_law "law" = true)
    (k_l_law : PySem.W.keepIn K (.ref f_l_law) = true) :
    ∃ fd : FuncData, (∀ (s : Shared) (v : Value), BindsTo s fd ⟨[v], []⟩ [("script", v)]) ∧ ∀ base : Heap, K.In base → base.Ns mainGlobals mg → FnOk l.prog w K mg base CX0 8 fa fd ["script"] (spLaw K) := by
  have e := hfa.symm.trans (PySem.W.mg_of X G a_l_law)
  cases e
  have T_BadLacquer : S_BadLacquer K mg ((adOf C_BadLacquer C_BadNumber C_DampError C_Lacquer C_TooLarge) .BadLacquer) := ⟨PySem.W.mg_of X G a_BadLacquer, c_BadLacquer_x, c_BadLacquer_kp, c_BadLacquer_b, c_BadLacquer_t, c_BadLacquer_i, c_BadLacquer_s, c_BadLacquer_hg, c_BadLacquer_hk, c_BadLacquer_hd, c_BadLacquer_ha, c_BadLacquer_hn, c_BadLacquer_ht, c_BadLacquer_hm⟩
  have T_BadNumber : S_BadNumber K mg ((adOf C_BadLacquer C_BadNumber C_DampError C_Lacquer C_TooLarge) .BadNumber) := ⟨PySem.W.mg_of X G a_BadNumber, c_BadNumber_x, c_BadNumber_kp, c_BadNumber_b, c_BadNumber_t, c_BadNumber_i, c_BadNumber_s, c_BadNumber_hg, c_BadNumber_hk, c_BadNumber_hd, c_BadNumber_ha, c_BadNumber_hn, c_BadNumber_ht, c_BadNumber_hm⟩
  have T_DampError : S_DampError K mg ((adOf C_BadLacquer C_BadNumber C_DampError C_Lacquer C_TooLarge) .DampError) := ⟨PySem.W.mg_of X G a_DampError, c_DampError_x, c_DampError_kp, c_DampError_b, c_DampError_t, c_DampError_i, c_DampError_s, c_DampError_hg, c_DampError_hk, c_DampError_hd, c_DampError_ha, c_DampError_hn, c_DampError_ht, c_DampError_hm⟩
  have T_Lacquer : S_Lacquer K mg ((adOf C_BadLacquer C_BadNumber C_DampError C_Lacquer C_TooLarge) .Lacquer) := ⟨c_Lacquer_pg, c_Lacquer_hd, c_Lacquer_po, c_Lacquer_sa, PySem.W.mg_of X G a_Lacquer, c_Lacquer_sf, c_Lacquer_nf, c_Lacquer_ha, c_Lacquer_hn, c_Lacquer_ht, c_Lacquer_hm, c_Lacquer_kp, c_Lacquer_mkk, ⟨_, c_Lacquer_v_MOST, ⟨_, rfl⟩⟩, c_Lacquer_rd, c_Lacquer_ga, c_Lacquer_n_a, c_Lacquer_n_b⟩
  have T_TooLarge : S_TooLarge K mg ((adOf C_BadLacquer C_BadNumber C_DampError C_Lacquer C_TooLarge) .TooLarge) := ⟨PySem.W.mg_of X G a_TooLarge, c_TooLarge_x, c_TooLarge_kp, c_TooLarge_b, c_TooLarge_t, c_TooLarge_i, c_TooLarge_s, c_TooLarge_hg, c_TooLarge_hk, c_TooLarge_hd, c_TooLarge_ha, c_TooLarge_hn, c_TooLarge_ht, c_TooLarge_hm⟩
  have z_ValueError : mg "ValueError" = none := PySem.W.mg_none_of X G y_ValueError
  have z_bool : mg "bool" = none := PySem.W.mg_none_of X G y_bool
  have z_int : mg "int" = none := PySem.W.mg_none_of X G y_int
  have z_isinstance : mg "isinstance" = none := PySem.W.mg_none_of X G y_isinstance
  have z_len : mg "len" = none := PySem.W.mg_none_of X G y_len
  have z_list : mg "list" = none := PySem.W.mg_none_of X G y_list
  have z_range : mg "range" = none := PySem.W.mg_none_of X G y_range
  have z_sorted : mg "sorted" = none := PySem.W.mg_none_of X G y_sorted
  refine ⟨PySem.W.fnOf "law" "law" (defArgs s_l_law) (defBody s_l_law) (defScope s_l_law) .none kV_l_law dc_l_law pm_l_law an_l_law cd_l_law ct_l_law, fun s v => .of_eq rfl, fun base _ _ => ?_⟩
  have F_l_take := fun_mk (st := s_l_take) l_l_take e_l_take k_l_take
  have b_l_take := F_l_take.binds (ps := ["pool", "size"]) fun _ _ _ _ _ _ us hl => match us, hl with | [_, _], _ => rfl
  have m_l_take := PySem.W.mg_of X G a_l_take
  have O_l_take : FnOk l.prog w K mg base CX0 1 f_l_take _ ["pool", "size"] (spP K (adOf C_BadLacquer C_BadNumber C_DampError C_Lacquer C_TooLarge) 2 G_l_take) := ok_l_take (ad := (adOf C_BadLacquer C_BadNumber C_DampError C_Lacquer C_TooLarge)) F_l_take (z_int := z_int)
  have F_l_ab := fun_mk (st := s_l_ab) l_l_ab e_l_ab k_l_ab
  have b_l_ab := F_l_ab.binds (ps := ["pool", "most"]) fun _ _ _ _ _ _ us hl => match us, hl with | [_, _], _ => rfl
  have m_l_ab := PySem.W.mg_of X G a_l_ab
  have O_l_ab : FnOk l.prog w K mg base CX0 2 f_l_ab _ ["pool", "most"] (spP K (adOf C_BadLacquer C_BadNumber C_DampError C_Lacquer C_TooLarge) 2 G_l_ab) := ok_l_ab (ad := (adOf C_BadLacquer C_BadNumber C_DampError C_Lacquer C_TooLarge)) F_l_ab (O_l_take := O_l_take) (m_l_take := m_l_take) (k_l_take := k_l_take) (b_l_take := b_l_take)
  have F_l_far := fun_mk (st := s_l_far) l_l_far e_l_far k_l_far
  have b_l_far := F_l_far.binds (ps := ["pool"]) fun _ _ _ _ _ _ us hl => match us, hl with | [_], _ => rfl
  have m_l_far := PySem.W.mg_of X G a_l_far
  have O_l_far : FnOk l.prog w K mg base CX0 2 f_l_far _ ["pool"] (spP K (adOf C_BadLacquer C_BadNumber C_DampError C_Lacquer C_TooLarge) 1 G_l_far) := ok_l_far (ad := (adOf C_BadLacquer C_BadNumber C_DampError C_Lacquer C_TooLarge)) F_l_far (z_range := z_range) (O_l_take := O_l_take) (m_l_take := m_l_take) (k_l_take := k_l_take) (b_l_take := b_l_take)
  have F_l_any := fun_mk (st := s_l_any) l_l_any e_l_any k_l_any
  have b_l_any := F_l_any.binds (ps := ["pool"]) fun _ _ _ _ _ _ us hl => match us, hl with | [_], _ => rfl
  have m_l_any := PySem.W.mg_of X G a_l_any
  have O_l_any : FnOk l.prog w K mg base CX0 3 f_l_any _ ["pool"] (spP K (adOf C_BadLacquer C_BadNumber C_DampError C_Lacquer C_TooLarge) 1 G_l_any) := ok_l_any (ad := (adOf C_BadLacquer C_BadNumber C_DampError C_Lacquer C_TooLarge)) F_l_any (O_l_far := O_l_far) (m_l_far := m_l_far) (k_l_far := k_l_far) (b_l_far := b_l_far) (O_l_take := O_l_take) (m_l_take := m_l_take) (k_l_take := k_l_take) (b_l_take := b_l_take)
  have F_l_cell := fun_mk (st := s_l_cell) l_l_cell e_l_cell k_l_cell
  have b_l_cell := F_l_cell.binds (ps := ["script", "k"]) fun _ _ _ _ _ _ us hl => match us, hl with | [_, _], _ => rfl
  have m_l_cell := PySem.W.mg_of X G a_l_cell
  have O_l_cell : FnOk l.prog w K mg base CX0 1 f_l_cell _ ["script", "k"] (spP K (adOf C_BadLacquer C_BadNumber C_DampError C_Lacquer C_TooLarge) 2 G_l_cell) := ok_l_cell (ad := (adOf C_BadLacquer C_BadNumber C_DampError C_Lacquer C_TooLarge)) F_l_cell (z_len := z_len)
  have F_Lacquer_eq := fun_mk (st := s_Lacquer_eq) l_Lacquer_eq e_Lacquer_eq k_Lacquer_eq
  have b_Lacquer_eq := F_Lacquer_eq.binds (ps := ["self", "other"]) fun _ _ _ _ _ _ us hl => match us, hl with | [_, _], _ => rfl
  have M_Lacquer_eq : Meth K ((adOf C_BadLacquer C_BadNumber C_DampError C_Lacquer C_TooLarge) .Lacquer) "__eq__" f_Lacquer_eq := ⟨a_Lacquer_eq, j_Lacquer_eq, k_Lacquer_eq⟩
  have O_Lacquer_eq : FnOk l.prog w K mg base CX0 1 f_Lacquer_eq _ ["self", "other"] (spP K (adOf C_BadLacquer C_BadNumber C_DampError C_Lacquer C_TooLarge) 2 G_Lacquer_eq) := ok_Lacquer_eq (ad := (adOf C_BadLacquer C_BadNumber C_DampError C_Lacquer C_TooLarge)) F_Lacquer_eq (T_Lacquer := T_Lacquer) (z_isinstance := z_isinstance) (kit_Lacquer_Lacquer := kit_Lacquer_Lacquer) (kit_NoneType_Lacquer := kit_NoneType_Lacquer)
  have F_l_equals := fun_mk (st := s_l_equals) l_l_equals e_l_equals k_l_equals
  have b_l_equals := F_l_equals.binds (ps := ["one", "other", "due"]) fun _ _ _ _ _ _ us hl => match us, hl with | [_, _, _], _ => rfl
  have m_l_equals := PySem.W.mg_of X G a_l_equals
  have O_l_equals : FnOk l.prog w K mg base CX0 2 f_l_equals _ ["one", "other", "due"] (spP K (adOf C_BadLacquer C_BadNumber C_DampError C_Lacquer C_TooLarge) 3 G_l_equals) := ok_l_equals (ad := (adOf C_BadLacquer C_BadNumber C_DampError C_Lacquer C_TooLarge)) F_l_equals (T_Lacquer := T_Lacquer) (z_bool := z_bool) (z_isinstance := z_isinstance) (kit_bool_bool := kit_bool_bool) (O_Lacquer_eq := O_Lacquer_eq) (b_Lacquer_eq := b_Lacquer_eq) (M_Lacquer_eq := M_Lacquer_eq)
  have F_l_int := fun_mk (st := s_l_int) l_l_int e_l_int k_l_int
  have b_l_int := F_l_int.binds (ps := ["x"]) fun _ _ _ _ _ _ us hl => match us, hl with | [_], _ => rfl
  have m_l_int := PySem.W.mg_of X G a_l_int
  have O_l_int : FnOk l.prog w K mg base CX0 1 f_l_int _ ["x"] (spP K (adOf C_BadLacquer C_BadNumber C_DampError C_Lacquer C_TooLarge) 1 G_l_int) := ok_l_int (ad := (adOf C_BadLacquer C_BadNumber C_DampError C_Lacquer C_TooLarge)) F_l_int (z_bool := z_bool) (z_int := z_int) (z_isinstance := z_isinstance) (kit_int_bool := kit_int_bool) (kit_int_int := kit_int_int)
  have F_Lacquer_init := fun_mk (st := s_Lacquer_init) l_Lacquer_init e_Lacquer_init k_Lacquer_init
  have b_Lacquer_init := F_Lacquer_init.binds (ps := ["self", "a", "b"]) fun _ _ _ _ _ _ us hl => match us, hl with | [_, _, _], _ => rfl
  have I_Lacquer : Mk K ((adOf C_BadLacquer C_BadNumber C_DampError C_Lacquer C_TooLarge) .Lacquer) f_Lacquer_init := ⟨c_Lacquer_mkk, a_Lacquer_init, j_Lacquer_init, c_Lacquer_kp⟩
  have O_Lacquer_init : FnOk l.prog w K mg base (L2.CX l.prog w) 1 f_Lacquer_init _ ["self", "a", "b"] (spP K (adOf C_BadLacquer C_BadNumber C_DampError C_Lacquer C_TooLarge) 3 G_Lacquer_init) := ok_Lacquer_init (ad := (adOf C_BadLacquer C_BadNumber C_DampError C_Lacquer C_TooLarge)) F_Lacquer_init (T_BadLacquer := T_BadLacquer) (T_Lacquer := T_Lacquer)
  have F_l_made := fun_mk (st := s_l_made) l_l_made e_l_made k_l_made
  have b_l_made := F_l_made.binds (ps := ["a", "b"]) fun _ _ _ _ _ _ us hl => match us, hl with | [_, _], _ => rfl
  have m_l_made := PySem.W.mg_of X G a_l_made
  have O_l_made : FnOk l.prog w K mg base CX0 3 f_l_made _ ["a", "b"] (spP K (adOf C_BadLacquer C_BadNumber C_DampError C_Lacquer C_TooLarge) 2 G_l_made) := ok_l_made (ad := (adOf C_BadLacquer C_BadNumber C_DampError C_Lacquer C_TooLarge)) F_l_made (T_BadLacquer := T_BadLacquer) (T_BadNumber := T_BadNumber) (T_DampError := T_DampError) (T_Lacquer := T_Lacquer) (T_TooLarge := T_TooLarge) (xm_BadLacquer_BadLacquer := xm_BadLacquer_BadLacquer) (xm_BadNumber_BadLacquer := xm_BadNumber_BadLacquer) (xm_DampError_BadLacquer := xm_DampError_BadLacquer) (xm_TooLarge_BadLacquer := xm_TooLarge_BadLacquer) (O_Lacquer_init := O_Lacquer_init) (b_Lacquer_init := b_Lacquer_init) (I_Lacquer := I_Lacquer)
  have F_l_pool := fun_mk (st := s_l_pool) l_l_pool e_l_pool k_l_pool
  have b_l_pool := F_l_pool.binds (ps := ["cell"]) fun _ _ _ _ _ _ us hl => match us, hl with | [_], _ => rfl
  have m_l_pool := PySem.W.mg_of X G a_l_pool
  have O_l_pool : FnOk l.prog w K mg base CX0 1 f_l_pool _ ["cell"] (spP K (adOf C_BadLacquer C_BadNumber C_DampError C_Lacquer C_TooLarge) 1 G_l_pool) := ok_l_pool (ad := (adOf C_BadLacquer C_BadNumber C_DampError C_Lacquer C_TooLarge)) F_l_pool (z_int := z_int)
  have F_l_refuses := fun_mk (st := s_l_refuses) l_l_refuses e_l_refuses k_l_refuses
  have b_l_refuses := F_l_refuses.binds (ps := ["a", "b"]) fun _ _ _ _ _ _ us hl => match us, hl with | [_, _], _ => rfl
  have m_l_refuses := PySem.W.mg_of X G a_l_refuses
  have O_l_refuses : FnOk l.prog w K mg base CX0 3 f_l_refuses _ ["a", "b"] (spP K (adOf C_BadLacquer C_BadNumber C_DampError C_Lacquer C_TooLarge) 2 G_l_refuses) := ok_l_refuses (ad := (adOf C_BadLacquer C_BadNumber C_DampError C_Lacquer C_TooLarge)) F_l_refuses (T_BadLacquer := T_BadLacquer) (T_BadNumber := T_BadNumber) (T_DampError := T_DampError) (T_Lacquer := T_Lacquer) (T_TooLarge := T_TooLarge) (z_ValueError := z_ValueError) (z_isinstance := z_isinstance) (kit_BadLacquer_BadNumber := kit_BadLacquer_BadNumber) (kit_BadLacquer_DampError := kit_BadLacquer_DampError) (kit_BadLacquer_TooLarge := kit_BadLacquer_TooLarge) (kit_BadLacquer_ValueError := kit_BadLacquer_ValueError) (xm_BadLacquer_BadLacquer := xm_BadLacquer_BadLacquer) (xm_BadNumber_BadLacquer := xm_BadNumber_BadLacquer) (xm_DampError_BadLacquer := xm_DampError_BadLacquer) (xm_TooLarge_BadLacquer := xm_TooLarge_BadLacquer) (O_Lacquer_init := O_Lacquer_init) (b_Lacquer_init := b_Lacquer_init) (I_Lacquer := I_Lacquer)
  have F_Lacquer_slack := fun_mk (st := s_Lacquer_slack) l_Lacquer_slack e_Lacquer_slack k_Lacquer_slack
  have b_Lacquer_slack := F_Lacquer_slack.binds (ps := ["self"]) fun _ _ _ _ _ _ us hl => match us, hl with | [_], _ => rfl
  have P_Lacquer_slack : PropOf K ((adOf C_BadLacquer C_BadNumber C_DampError C_Lacquer C_TooLarge) .Lacquer) "slack" p_Lacquer_slack f_Lacquer_slack := ⟨a_Lacquer_slack, pg_Lacquer_slack, pt_Lacquer_slack, ⟨rest_Lacquer_slack, pr_Lacquer_slack⟩⟩
  have O_Lacquer_slack : FnOk l.prog w K mg base CX0 1 f_Lacquer_slack _ ["self"] (spP K (adOf C_BadLacquer C_BadNumber C_DampError C_Lacquer C_TooLarge) 1 G_Lacquer_slack) := ok_Lacquer_slack (ad := (adOf C_BadLacquer C_BadNumber C_DampError C_Lacquer C_TooLarge)) F_Lacquer_slack (T_Lacquer := T_Lacquer)
  have F_f_ceil_div := fun_mk (st := s_f_ceil_div) l_f_ceil_div e_f_ceil_div k_f_ceil_div
  have b_f_ceil_div := F_f_ceil_div.binds (ps := ["x", "y"]) fun _ _ _ _ _ _ us hl => match us, hl with | [_, _], _ => rfl
  have m_f_ceil_div := PySem.W.mg_of X G a_f_ceil_div
  have O_f_ceil_div : FnOk l.prog w K mg base CX0 1 f_f_ceil_div _ ["x", "y"] (spP K (adOf C_BadLacquer C_BadNumber C_DampError C_Lacquer C_TooLarge) 2 G_f_ceil_div) := ok_f_ceil_div (ad := (adOf C_BadLacquer C_BadNumber C_DampError C_Lacquer C_TooLarge)) F_f_ceil_div 
  have F_Lacquer_spans := fun_mk (st := s_Lacquer_spans) l_Lacquer_spans e_Lacquer_spans k_Lacquer_spans
  have b_Lacquer_spans := F_Lacquer_spans.binds (ps := ["self", "w"]) fun _ _ _ _ _ _ us hl => match us, hl with | [_, _], _ => rfl
  have M_Lacquer_spans : Meth K ((adOf C_BadLacquer C_BadNumber C_DampError C_Lacquer C_TooLarge) .Lacquer) "spans" f_Lacquer_spans := ⟨a_Lacquer_spans, j_Lacquer_spans, k_Lacquer_spans⟩
  have O_Lacquer_spans : FnOk l.prog w K mg base (L2.CX l.prog w) 3 f_Lacquer_spans _ ["self", "w"] (spP K (adOf C_BadLacquer C_BadNumber C_DampError C_Lacquer C_TooLarge) 2 G_Lacquer_spans) := ok_Lacquer_spans (ad := (adOf C_BadLacquer C_BadNumber C_DampError C_Lacquer C_TooLarge)) F_Lacquer_spans (T_BadNumber := T_BadNumber) (T_Lacquer := T_Lacquer) (O_f_ceil_div := O_f_ceil_div) (m_f_ceil_div := m_f_ceil_div) (k_f_ceil_div := k_f_ceil_div) (b_f_ceil_div := b_f_ceil_div) (O_Lacquer_slack := O_Lacquer_slack) (b_Lacquer_slack := b_Lacquer_slack) (P_Lacquer_slack := P_Lacquer_slack)
  have F_Lacquer_lead := fun_mk (st := s_Lacquer_lead) l_Lacquer_lead e_Lacquer_lead k_Lacquer_lead
  have b_Lacquer_lead := F_Lacquer_lead.binds (ps := ["self", "w"]) fun _ _ _ _ _ _ us hl => match us, hl with | [_, _], _ => rfl
  have M_Lacquer_lead : Meth K ((adOf C_BadLacquer C_BadNumber C_DampError C_Lacquer C_TooLarge) .Lacquer) "lead" f_Lacquer_lead := ⟨a_Lacquer_lead, j_Lacquer_lead, k_Lacquer_lead⟩
  have O_Lacquer_lead : FnOk l.prog w K mg base (L2.CX l.prog w) 4 f_Lacquer_lead _ ["self", "w"] (spP K (adOf C_BadLacquer C_BadNumber C_DampError C_Lacquer C_TooLarge) 2 G_Lacquer_lead) := ok_Lacquer_lead (ad := (adOf C_BadLacquer C_BadNumber C_DampError C_Lacquer C_TooLarge)) F_Lacquer_lead (T_BadNumber := T_BadNumber) (T_Lacquer := T_Lacquer) (O_Lacquer_spans := O_Lacquer_spans) (b_Lacquer_spans := b_Lacquer_spans) (M_Lacquer_spans := M_Lacquer_spans)
  have F_Lacquer_turns := fun_mk (st := s_Lacquer_turns) l_Lacquer_turns e_Lacquer_turns k_Lacquer_turns
  have b_Lacquer_turns := F_Lacquer_turns.binds (ps := ["self", "g"]) fun _ _ _ _ _ _ us hl => match us, hl with | [_, _], _ => rfl
  have M_Lacquer_turns : Meth K ((adOf C_BadLacquer C_BadNumber C_DampError C_Lacquer C_TooLarge) .Lacquer) "turns" f_Lacquer_turns := ⟨a_Lacquer_turns, j_Lacquer_turns, k_Lacquer_turns⟩
  have O_Lacquer_turns : FnOk l.prog w K mg base (L2.CX l.prog w) 2 f_Lacquer_turns _ ["self", "g"] (spP K (adOf C_BadLacquer C_BadNumber C_DampError C_Lacquer C_TooLarge) 2 G_Lacquer_turns) := ok_Lacquer_turns (ad := (adOf C_BadLacquer C_BadNumber C_DampError C_Lacquer C_TooLarge)) F_Lacquer_turns (T_BadNumber := T_BadNumber) (T_Lacquer := T_Lacquer) (O_f_ceil_div := O_f_ceil_div) (m_f_ceil_div := m_f_ceil_div) (k_f_ceil_div := k_f_ceil_div) (b_f_ceil_div := b_f_ceil_div)
  have F_l_bars := fun_mk (st := s_l_bars) l_l_bars e_l_bars k_l_bars
  have b_l_bars := F_l_bars.binds (ps := ["lacquer", "way", "number"]) fun _ _ _ _ _ _ us hl => match us, hl with | [_, _, _], _ => rfl
  have m_l_bars := PySem.W.mg_of X G a_l_bars
  have O_l_bars : FnOk l.prog w K mg base CX0 5 f_l_bars _ ["lacquer", "way", "number"] (spP K (adOf C_BadLacquer C_BadNumber C_DampError C_Lacquer C_TooLarge) 3 G_l_bars) := ok_l_bars (ad := (adOf C_BadLacquer C_BadNumber C_DampError C_Lacquer C_TooLarge)) F_l_bars (T_BadLacquer := T_BadLacquer) (T_BadNumber := T_BadNumber) (T_DampError := T_DampError) (T_Lacquer := T_Lacquer) (T_TooLarge := T_TooLarge) (z_ValueError := z_ValueError) (z_isinstance := z_isinstance) (kit_BadNumber_BadLacquer := kit_BadNumber_BadLacquer) (kit_BadNumber_DampError := kit_BadNumber_DampError) (kit_BadNumber_TooLarge := kit_BadNumber_TooLarge) (kit_BadNumber_ValueError := kit_BadNumber_ValueError) (xm_BadLacquer_BadNumber := xm_BadLacquer_BadNumber) (xm_BadNumber_BadNumber := xm_BadNumber_BadNumber) (xm_DampError_BadNumber := xm_DampError_BadNumber) (xm_TooLarge_BadNumber := xm_TooLarge_BadNumber) (O_Lacquer_lead := O_Lacquer_lead) (b_Lacquer_lead := b_Lacquer_lead) (M_Lacquer_lead := M_Lacquer_lead) (O_Lacquer_spans := O_Lacquer_spans) (b_Lacquer_spans := b_Lacquer_spans) (M_Lacquer_spans := M_Lacquer_spans) (O_Lacquer_turns := O_Lacquer_turns) (b_Lacquer_turns := b_Lacquer_turns) (M_Lacquer_turns := M_Lacquer_turns)
  have F_l_least := fun_mk (st := s_l_least) l_l_least e_l_least k_l_least
  have b_l_least := F_l_least.binds (ps := ["count", "size", "reach"]) fun _ _ _ _ _ _ us hl => match us, hl with | [_, _, _], _ => rfl
  have m_l_least := PySem.W.mg_of X G a_l_least
  have O_l_least : FnOk l.prog w K mg base CX0 2 f_l_least _ ["count", "size", "reach"] (spP K (adOf C_BadLacquer C_BadNumber C_DampError C_Lacquer C_TooLarge) 3 G_l_least) := ok_l_least (ad := (adOf C_BadLacquer C_BadNumber C_DampError C_Lacquer C_TooLarge)) F_l_least (O_l_int := O_l_int) (m_l_int := m_l_int) (k_l_int := k_l_int) (b_l_int := b_l_int)
  have F_l_counts := fun_mk (st := s_l_counts) l_l_counts e_l_counts k_l_counts
  have b_l_counts := F_l_counts.binds (ps := ["lacquer", "a", "b", "w", "g"]) fun _ _ _ _ _ _ us hl => match us, hl with | [_, _, _, _, _], _ => rfl
  have m_l_counts := PySem.W.mg_of X G a_l_counts
  have O_l_counts : FnOk l.prog w K mg base CX0 5 f_l_counts _ ["lacquer", "a", "b", "w", "g"] (spP K (adOf C_BadLacquer C_BadNumber C_DampError C_Lacquer C_TooLarge) 5 G_l_counts) := ok_l_counts (ad := (adOf C_BadLacquer C_BadNumber C_DampError C_Lacquer C_TooLarge)) F_l_counts (T_Lacquer := T_Lacquer) (O_l_int := O_l_int) (m_l_int := m_l_int) (k_l_int := k_l_int) (b_l_int := b_l_int) (O_l_least := O_l_least) (m_l_least := m_l_least) (k_l_least := k_l_least) (b_l_least := b_l_least) (O_Lacquer_lead := O_Lacquer_lead) (b_Lacquer_lead := b_Lacquer_lead) (M_Lacquer_lead := M_Lacquer_lead) (O_Lacquer_spans := O_Lacquer_spans) (b_Lacquer_spans := b_Lacquer_spans) (M_Lacquer_spans := M_Lacquer_spans) (O_Lacquer_turns := O_Lacquer_turns) (b_Lacquer_turns := b_Lacquer_turns) (M_Lacquer_turns := M_Lacquer_turns)
  have F_l_numbers := fun_mk (st := s_l_numbers) l_l_numbers e_l_numbers k_l_numbers
  have b_l_numbers := F_l_numbers.binds (ps := ["lacquer", "a", "b"]) fun _ _ _ _ _ _ us hl => match us, hl with | [_, _, _], _ => rfl
  have m_l_numbers := PySem.W.mg_of X G a_l_numbers
  have O_l_numbers : FnOk l.prog w K mg base CX0 3 f_l_numbers _ ["lacquer", "a", "b"] (spP K (adOf C_BadLacquer C_BadNumber C_DampError C_Lacquer C_TooLarge) 3 G_l_numbers) := ok_l_numbers (ad := (adOf C_BadLacquer C_BadNumber C_DampError C_Lacquer C_TooLarge)) F_l_numbers (T_Lacquer := T_Lacquer) (z_isinstance := z_isinstance) (kit_Lacquer_Lacquer := kit_Lacquer_Lacquer) (kit_NoneType_Lacquer := kit_NoneType_Lacquer) (O_l_int := O_l_int) (m_l_int := m_l_int) (k_l_int := k_l_int) (b_l_int := b_l_int) (O_Lacquer_slack := O_Lacquer_slack) (b_Lacquer_slack := b_Lacquer_slack) (P_Lacquer_slack := P_Lacquer_slack)
  have F_Lacquer_contains := fun_mk (st := s_Lacquer_contains) l_Lacquer_contains e_Lacquer_contains k_Lacquer_contains
  have b_Lacquer_contains := F_Lacquer_contains.binds (ps := ["self", "step"]) fun _ _ _ _ _ _ us hl => match us, hl with | [_, _], _ => rfl
  have M_Lacquer_contains : Meth K ((adOf C_BadLacquer C_BadNumber C_DampError C_Lacquer C_TooLarge) .Lacquer) "__contains__" f_Lacquer_contains := ⟨a_Lacquer_contains, j_Lacquer_contains, k_Lacquer_contains⟩
  have O_Lacquer_contains : FnOk l.prog w K mg base CX0 1 f_Lacquer_contains _ ["self", "step"] (spP K (adOf C_BadLacquer C_BadNumber C_DampError C_Lacquer C_TooLarge) 2 G_Lacquer_contains) := ok_Lacquer_contains (ad := (adOf C_BadLacquer C_BadNumber C_DampError C_Lacquer C_TooLarge)) F_Lacquer_contains (T_Lacquer := T_Lacquer)
  have F_l_steps := fun_mk (st := s_l_steps) l_l_steps e_l_steps k_l_steps
  have b_l_steps := F_l_steps.binds (ps := ["lacquer", "a", "b", "far"]) fun _ _ _ _ _ _ us hl => match us, hl with | [_, _, _, _], _ => rfl
  have m_l_steps := PySem.W.mg_of X G a_l_steps
  have O_l_steps : FnOk l.prog w K mg base CX0 2 f_l_steps _ ["lacquer", "a", "b", "far"] (spP K (adOf C_BadLacquer C_BadNumber C_DampError C_Lacquer C_TooLarge) 4 G_l_steps) := ok_l_steps (ad := (adOf C_BadLacquer C_BadNumber C_DampError C_Lacquer C_TooLarge)) F_l_steps (T_Lacquer := T_Lacquer) (z_range := z_range) (O_Lacquer_contains := O_Lacquer_contains) (b_Lacquer_contains := b_Lacquer_contains) (M_Lacquer_contains := M_Lacquer_contains)
  have F_l_whole_one := fun_mk (st := s_l_whole_one) l_l_whole_one e_l_whole_one k_l_whole_one
  have b_l_whole_one := F_l_whole_one.binds (ps := ["lacquer", "pair", "w", "g", "low", "far"]) fun _ _ _ _ _ _ us hl => match us, hl with | [_, _, _, _, _, _], _ => rfl
  have m_l_whole_one := PySem.W.mg_of X G a_l_whole_one
  have O_l_whole_one : FnOk l.prog w K mg base CX0 6 f_l_whole_one _ ["lacquer", "pair", "w", "g", "low", "far"] (spP K (adOf C_BadLacquer C_BadNumber C_DampError C_Lacquer C_TooLarge) 6 G_l_whole_one) := ok_l_whole_one (ad := (adOf C_BadLacquer C_BadNumber C_DampError C_Lacquer C_TooLarge)) F_l_whole_one (O_l_bars := O_l_bars) (m_l_bars := m_l_bars) (k_l_bars := k_l_bars) (b_l_bars := b_l_bars) (O_l_counts := O_l_counts) (m_l_counts := m_l_counts) (k_l_counts := k_l_counts) (b_l_counts := b_l_counts) (O_l_equals := O_l_equals) (m_l_equals := m_l_equals) (k_l_equals := k_l_equals) (b_l_equals := b_l_equals) (O_l_made := O_l_made) (m_l_made := m_l_made) (k_l_made := k_l_made) (b_l_made := b_l_made) (O_l_numbers := O_l_numbers) (m_l_numbers := m_l_numbers) (k_l_numbers := k_l_numbers) (b_l_numbers := b_l_numbers) (O_l_steps := O_l_steps) (m_l_steps := m_l_steps) (k_l_steps := k_l_steps) (b_l_steps := b_l_steps)
  have F_f_lacquers := fun_mk (st := s_f_lacquers) l_f_lacquers e_f_lacquers k_f_lacquers
  have b_f_lacquers := F_f_lacquers.binds (ps := ["most"]) fun _ _ _ _ _ _ us hl => match us, hl with | [_], _ => rfl
  have m_f_lacquers := PySem.W.mg_of X G a_f_lacquers
  have O_f_lacquers : GFn l.prog w K mg base 3 f_f_lacquers _ ["most"] (spG K (adOf C_BadLacquer C_BadNumber C_DampError C_Lacquer C_TooLarge) 1 2 B_f_lacquers) := ok_f_lacquers (ad := (adOf C_BadLacquer C_BadNumber C_DampError C_Lacquer C_TooLarge)) F_f_lacquers (T_Lacquer := T_Lacquer) (z_range := z_range) (O_Lacquer_init := O_Lacquer_init) (b_Lacquer_init := b_Lacquer_init) (I_Lacquer := I_Lacquer)
  have F_l_yields := fun_mk (st := s_l_yields) l_l_yields e_l_yields k_l_yields
  have b_l_yields := F_l_yields.binds (ps := ["most"]) fun _ _ _ _ _ _ us hl => match us, hl with | [_], _ => rfl
  have m_l_yields := PySem.W.mg_of X G a_l_yields
  have O_l_yields : FnOk l.prog w K mg base CX0 7 f_l_yields _ ["most"] (spP K (adOf C_BadLacquer C_BadNumber C_DampError C_Lacquer C_TooLarge) 1 G_l_yields) := ok_l_yields (ad := (adOf C_BadLacquer C_BadNumber C_DampError C_Lacquer C_TooLarge)) F_l_yields (z_len := z_len) (z_list := z_list) (z_range := z_range) (z_sorted := z_sorted) (O_f_lacquers := O_f_lacquers) (m_f_lacquers := m_f_lacquers) (k_f_lacquers := k_f_lacquers) (b_f_lacquers := b_f_lacquers) (O_l_numbers := O_l_numbers) (m_l_numbers := m_l_numbers) (k_l_numbers := k_l_numbers) (b_l_numbers := b_l_numbers)
  have F_l_law := fun_mk (st := s_l_law) l_l_law e_l_law k_l_law
  have O_l_law : FnOk l.prog w K mg base CX0 8 fa _ ["script"] (spP K (adOf C_BadLacquer C_BadNumber C_DampError C_Lacquer C_TooLarge) 1 G_l_law) := ok_l_law (ad := (adOf C_BadLacquer C_BadNumber C_DampError C_Lacquer C_TooLarge)) F_l_law (T_Lacquer := T_Lacquer) (O_l_ab := O_l_ab) (m_l_ab := m_l_ab) (k_l_ab := k_l_ab) (b_l_ab := b_l_ab) (O_l_any := O_l_any) (m_l_any := m_l_any) (k_l_any := k_l_any) (b_l_any := b_l_any) (O_l_cell := O_l_cell) (m_l_cell := m_l_cell) (k_l_cell := k_l_cell) (b_l_cell := b_l_cell) (O_l_equals := O_l_equals) (m_l_equals := m_l_equals) (k_l_equals := k_l_equals) (b_l_equals := b_l_equals) (O_l_int := O_l_int) (m_l_int := m_l_int) (k_l_int := k_l_int) (b_l_int := b_l_int) (O_l_made := O_l_made) (m_l_made := m_l_made) (k_l_made := k_l_made) (b_l_made := b_l_made) (O_l_pool := O_l_pool) (m_l_pool := m_l_pool) (k_l_pool := k_l_pool) (b_l_pool := b_l_pool) (O_l_refuses := O_l_refuses) (m_l_refuses := m_l_refuses) (k_l_refuses := k_l_refuses) (b_l_refuses := b_l_refuses) (O_l_take := O_l_take) (m_l_take := m_l_take) (k_l_take := k_l_take) (b_l_take := b_l_take) (O_l_whole_one := O_l_whole_one) (m_l_whole_one := m_l_whole_one) (k_l_whole_one := k_l_whole_one) (b_l_whole_one := b_l_whole_one) (O_l_yields := O_l_yields) (m_l_yields := m_l_yields) (k_l_yields := k_l_yields) (b_l_yields := b_l_yields)
  exact O_l_law.imp (spLaw_of law_pure)
end DP
open PySem PySem.W PyProof.Rows
set_option maxHeartbeats 0 in
theorem PySem.Challenge.cw_dampspells_k02_lacquer_numbers_holds : PySem.Challenge.rw_dampspells_k02_lacquer_numbers.Holds := by
  w_on; o_law; k_head; (case hw => w_witness2)
  k_fill
  refine L2.walk_of (l := PySem.Challenge.rw_dampspells_k02_lacquer_numbers) (n := 63) (k := 8) (x := "script") (CX := fun _ => L2.CX0) (sp := fun w => PL.spLaw _) rfl (by decide) rfl ⟨rfl, by decide, by decide⟩ (fun w h Y => PySem.W.kIn_of Y) ?F (fun _ _ a ns hl _ hS => ⟨a, ns, rfl, hS, hl, fun _ => rfl⟩) (fun _ _ _ _ _ h => h)
  case F =>
    intro w mg fa h KX G hmg
    refine' DP.all_mk KX G hmg ?a_BadLacquer ?c_BadLacquer_x ?c_BadLacquer_kp ?c_BadLacquer_b ?c_BadLacquer_t ?c_BadLacquer_i ?c_BadLacquer_s ?c_BadLacquer_hg ?c_BadLacquer_hk ?c_BadLacquer_hd ?c_BadLacquer_ha ?c_BadLacquer_hn ?c_BadLacquer_ht ?c_BadLacquer_hm ?a_BadNumber ?c_BadNumber_x ?c_BadNumber_kp ?c_BadNumber_b ?c_BadNumber_t ?c_BadNumber_i ?c_BadNumber_s ?c_BadNumber_hg ?c_BadNumber_hk ?c_BadNumber_hd ?c_BadNumber_ha ?c_BadNumber_hn ?c_BadNumber_ht ?c_BadNumber_hm ?a_DampError ?c_DampError_x ?c_DampError_kp ?c_DampError_b ?c_DampError_t ?c_DampError_i ?c_DampError_s ?c_DampError_hg ?c_DampError_hk ?c_DampError_hd ?c_DampError_ha ?c_DampError_hn ?c_DampError_ht ?c_DampError_hm ?a_Lacquer ?c_Lacquer_pg ?c_Lacquer_hd ?c_Lacquer_po ?c_Lacquer_sa ?c_Lacquer_sf ?c_Lacquer_nf ?c_Lacquer_ha ?c_Lacquer_hn ?c_Lacquer_ht ?c_Lacquer_hm ?c_Lacquer_kp ?c_Lacquer_mkk ?c_Lacquer_v_MOST ?c_Lacquer_rd ?c_Lacquer_ga ?c_Lacquer_n_a ?c_Lacquer_n_b ?a_TooLarge ?c_TooLarge_x ?c_TooLarge_kp ?c_TooLarge_b ?c_TooLarge_t ?c_TooLarge_i ?c_TooLarge_s ?c_TooLarge_hg ?c_TooLarge_hk ?c_TooLarge_hd ?c_TooLarge_ha ?c_TooLarge_hn ?c_TooLarge_ht ?c_TooLarge_hm ?kit_BadLacquer_BadNumber ?kit_BadLacquer_DampError ?kit_BadLacquer_TooLarge ?kit_BadLacquer_ValueError ?kit_BadNumber_BadLacquer ?kit_BadNumber_DampError ?kit_BadNumber_TooLarge ?kit_BadNumber_ValueError ?kit_Lacquer_Lacquer ?kit_NoneType_Lacquer ?kit_bool_bool ?kit_int_bool ?kit_int_int ?xm_BadLacquer_BadLacquer ?xm_BadLacquer_BadNumber ?xm_BadNumber_BadLacquer ?xm_BadNumber_BadNumber ?xm_DampError_BadLacquer ?xm_DampError_BadNumber ?xm_TooLarge_BadLacquer ?xm_TooLarge_BadNumber ?y_ValueError ?y_bool ?y_int ?y_isinstance ?y_len ?y_list ?y_range ?y_sorted ?a_l_take ?l_l_take ?e_l_take ?k_l_take ?a_l_ab ?l_l_ab ?e_l_ab ?k_l_ab ?a_l_far ?l_l_far ?e_l_far ?k_l_far ?a_l_any ?l_l_any ?e_l_any ?k_l_any ?a_l_cell ?l_l_cell ?e_l_cell ?k_l_cell ?a_Lacquer_eq ?j_Lacquer_eq ?l_Lacquer_eq ?e_Lacquer_eq ?k_Lacquer_eq ?a_l_equals ?l_l_equals ?e_l_equals ?k_l_equals ?a_l_int ?l_l_int ?e_l_int ?k_l_int ?a_Lacquer_init ?j_Lacquer_init ?l_Lacquer_init ?e_Lacquer_init ?k_Lacquer_init ?a_l_made ?l_l_made ?e_l_made ?k_l_made ?a_l_pool ?l_l_pool ?e_l_pool ?k_l_pool ?a_l_refuses ?l_l_refuses ?e_l_refuses ?k_l_refuses ?a_Lacquer_slack ?pg_Lacquer_slack ?pt_Lacquer_slack ?pr_Lacquer_slack ?l_Lacquer_slack ?e_Lacquer_slack ?k_Lacquer_slack ?a_f_ceil_div ?l_f_ceil_div ?e_f_ceil_div ?k_f_ceil_div ?a_Lacquer_spans ?j_Lacquer_spans ?l_Lacquer_spans ?e_Lacquer_spans ?k_Lacquer_spans ?a_Lacquer_lead ?j_Lacquer_lead ?l_Lacquer_lead ?e_Lacquer_lead ?k_Lacquer_lead ?a_Lacquer_turns ?j_Lacquer_turns ?l_Lacquer_turns ?e_Lacquer_turns ?k_Lacquer_turns ?a_l_bars ?l_l_bars ?e_l_bars ?k_l_bars ?a_l_least ?l_l_least ?e_l_least ?k_l_least ?a_l_counts ?l_l_counts ?e_l_counts ?k_l_counts ?a_l_numbers ?l_l_numbers ?e_l_numbers ?k_l_numbers ?a_Lacquer_contains ?j_Lacquer_contains ?l_Lacquer_contains ?e_Lacquer_contains ?k_Lacquer_contains ?a_l_steps ?l_l_steps ?e_l_steps ?k_l_steps ?a_l_whole_one ?l_l_whole_one ?e_l_whole_one ?k_l_whole_one ?a_f_lacquers ?l_f_lacquers ?e_f_lacquers ?k_f_lacquers ?a_l_yields ?l_l_yields ?e_l_yields ?k_l_yields ?a_l_law ?l_l_law ?e_l_law ?k_l_law
    (case a_BadLacquer => k_is)
    (case c_BadLacquer_x => k_exc)
    (case c_BadLacquer_kp => k_is)
    (case c_BadLacquer_b => k_is)
    (case c_BadLacquer_t => k_is)
    (case c_BadLacquer_i => k_is)
    (case c_BadLacquer_s => k_is)
    (case c_BadLacquer_hg => k_is)
    (case c_BadLacquer_hk => k_is)
    (case c_BadLacquer_hd => k_is)
    (case c_BadLacquer_ha => k_is)
    (case c_BadLacquer_hn => k_is)
    (case c_BadLacquer_ht => k_is)
    (case c_BadLacquer_hm => k_is)
    (case a_BadNumber => k_is)
    (case c_BadNumber_x => k_exc)
    (case c_BadNumber_kp => k_is)
    (case c_BadNumber_b => k_is)
    (case c_BadNumber_t => k_is)
    (case c_BadNumber_i => k_is)
    (case c_BadNumber_s => k_is)
    (case c_BadNumber_hg => k_is)
    (case c_BadNumber_hk => k_is)
    (case c_BadNumber_hd => k_is)
    (case c_BadNumber_ha => k_is)
    (case c_BadNumber_hn => k_is)
    (case c_BadNumber_ht => k_is)
    (case c_BadNumber_hm => k_is)
    (case a_DampError => k_is)
    (case c_DampError_x => k_exc)
    (case c_DampError_kp => k_is)
    (case c_DampError_b => k_is)
    (case c_DampError_t => k_is)
    (case c_DampError_i => k_is)
    (case c_DampError_s => k_is)
    (case c_DampError_hg => k_is)
    (case c_DampError_hk => k_is)
    (case c_DampError_hd => k_is)
    (case c_DampError_ha => k_is)
    (case c_DampError_hn => k_is)
    (case c_DampError_ht => k_is)
    (case c_DampError_hm => k_is)
    (case a_Lacquer => k_is)
    (case c_Lacquer_pg => k_is)
    (case c_Lacquer_hd => k_is)
    (case c_Lacquer_po => k_is)
    (case c_Lacquer_sa => k_is)
    (case c_Lacquer_sf => k_is)
    (case c_Lacquer_nf => k_is)
    (case c_Lacquer_ha => k_is)
    (case c_Lacquer_hn => k_is)
    (case c_Lacquer_ht => k_is)
    (case c_Lacquer_hm => k_is)
    (case c_Lacquer_kp => k_is)
    (case c_Lacquer_mkk => k_is)
    (case c_Lacquer_v_MOST => k_is)
    (case c_Lacquer_rd => k_is)
    (case c_Lacquer_ga => k_is)
    (case c_Lacquer_n_a => k_is)
    (case c_Lacquer_n_b => k_is)
    (case a_TooLarge => k_is)
    (case c_TooLarge_x => k_exc)
    (case c_TooLarge_kp => k_is)
    (case c_TooLarge_b => k_is)
    (case c_TooLarge_t => k_is)
    (case c_TooLarge_i => k_is)
    (case c_TooLarge_s => k_is)
    (case c_TooLarge_hg => k_is)
    (case c_TooLarge_hk => k_is)
    (case c_TooLarge_hd => k_is)
    (case c_TooLarge_ha => k_is)
    (case c_TooLarge_hn => k_is)
    (case c_TooLarge_ht => k_is)
    (case c_TooLarge_hm => k_is)
    (case kit_BadLacquer_BadNumber => first | k_is | decide +kernel | rfl)
    (case kit_BadLacquer_DampError => first | k_is | decide +kernel | rfl)
    (case kit_BadLacquer_TooLarge => first | k_is | decide +kernel | rfl)
    (case kit_BadLacquer_ValueError => first | k_is | decide +kernel | rfl)
    (case kit_BadNumber_BadLacquer => first | k_is | decide +kernel | rfl)
    (case kit_BadNumber_DampError => first | k_is | decide +kernel | rfl)
    (case kit_BadNumber_TooLarge => first | k_is | decide +kernel | rfl)
    (case kit_BadNumber_ValueError => first | k_is | decide +kernel | rfl)
    (case kit_Lacquer_Lacquer => first | k_is | decide +kernel | rfl)
    (case kit_NoneType_Lacquer => first | k_is | decide +kernel | rfl)
    (case kit_bool_bool => first | k_is | decide +kernel | rfl)
    (case kit_int_bool => first | k_is | decide +kernel | rfl)
    (case kit_int_int => first | k_is | decide +kernel | rfl)
    (case xm_BadLacquer_BadLacquer => first | k_is | decide +kernel | rfl)
    (case xm_BadLacquer_BadNumber => first | k_is | decide +kernel | rfl)
    (case xm_BadNumber_BadLacquer => first | k_is | decide +kernel | rfl)
    (case xm_BadNumber_BadNumber => first | k_is | decide +kernel | rfl)
    (case xm_DampError_BadLacquer => first | k_is | decide +kernel | rfl)
    (case xm_DampError_BadNumber => first | k_is | decide +kernel | rfl)
    (case xm_TooLarge_BadLacquer => first | k_is | decide +kernel | rfl)
    (case xm_TooLarge_BadNumber => first | k_is | decide +kernel | rfl)
    (case y_ValueError => k_is)
    (case y_bool => k_is)
    (case y_int => k_is)
    (case y_isinstance => k_is)
    (case y_len => k_is)
    (case y_list => k_is)
    (case y_range => k_is)
    (case y_sorted => k_is)
    (case a_l_take => k_is)
    (case l_l_take => k_is)
    (case e_l_take => k_is)
    (case k_l_take => k_is)
    (case a_l_ab => k_is)
    (case l_l_ab => k_is)
    (case e_l_ab => k_is)
    (case k_l_ab => k_is)
    (case a_l_far => k_is)
    (case l_l_far => k_is)
    (case e_l_far => k_is)
    (case k_l_far => k_is)
    (case a_l_any => k_is)
    (case l_l_any => k_is)
    (case e_l_any => k_is)
    (case k_l_any => k_is)
    (case a_l_cell => k_is)
    (case l_l_cell => k_is)
    (case e_l_cell => k_is)
    (case k_l_cell => k_is)
    (case a_Lacquer_eq => k_is)
    (case j_Lacquer_eq => k_is)
    (case l_Lacquer_eq => k_is)
    (case e_Lacquer_eq => k_is)
    (case k_Lacquer_eq => k_is)
    (case a_l_equals => k_is)
    (case l_l_equals => k_is)
    (case e_l_equals => k_is)
    (case k_l_equals => k_is)
    (case a_l_int => k_is)
    (case l_l_int => k_is)
    (case e_l_int => k_is)
    (case k_l_int => k_is)
    (case a_Lacquer_init => k_is)
    (case j_Lacquer_init => k_is)
    (case l_Lacquer_init => k_is)
    (case e_Lacquer_init => k_is)
    (case k_Lacquer_init => k_is)
    (case a_l_made => k_is)
    (case l_l_made => k_is)
    (case e_l_made => k_is)
    (case k_l_made => k_is)
    (case a_l_pool => k_is)
    (case l_l_pool => k_is)
    (case e_l_pool => k_is)
    (case k_l_pool => k_is)
    (case a_l_refuses => k_is)
    (case l_l_refuses => k_is)
    (case e_l_refuses => k_is)
    (case k_l_refuses => k_is)
    (case a_Lacquer_slack => k_is)
    (case pg_Lacquer_slack => k_is)
    (case pt_Lacquer_slack => k_is)
    (case pr_Lacquer_slack => k_is)
    (case l_Lacquer_slack => k_is)
    (case e_Lacquer_slack => k_is)
    (case k_Lacquer_slack => k_is)
    (case a_f_ceil_div => k_is)
    (case l_f_ceil_div => k_is)
    (case e_f_ceil_div => k_is)
    (case k_f_ceil_div => k_is)
    (case a_Lacquer_spans => k_is)
    (case j_Lacquer_spans => k_is)
    (case l_Lacquer_spans => k_is)
    (case e_Lacquer_spans => k_is)
    (case k_Lacquer_spans => k_is)
    (case a_Lacquer_lead => k_is)
    (case j_Lacquer_lead => k_is)
    (case l_Lacquer_lead => k_is)
    (case e_Lacquer_lead => k_is)
    (case k_Lacquer_lead => k_is)
    (case a_Lacquer_turns => k_is)
    (case j_Lacquer_turns => k_is)
    (case l_Lacquer_turns => k_is)
    (case e_Lacquer_turns => k_is)
    (case k_Lacquer_turns => k_is)
    (case a_l_bars => k_is)
    (case l_l_bars => k_is)
    (case e_l_bars => k_is)
    (case k_l_bars => k_is)
    (case a_l_least => k_is)
    (case l_l_least => k_is)
    (case e_l_least => k_is)
    (case k_l_least => k_is)
    (case a_l_counts => k_is)
    (case l_l_counts => k_is)
    (case e_l_counts => k_is)
    (case k_l_counts => k_is)
    (case a_l_numbers => k_is)
    (case l_l_numbers => k_is)
    (case e_l_numbers => k_is)
    (case k_l_numbers => k_is)
    (case a_Lacquer_contains => k_is)
    (case j_Lacquer_contains => k_is)
    (case l_Lacquer_contains => k_is)
    (case e_Lacquer_contains => k_is)
    (case k_Lacquer_contains => k_is)
    (case a_l_steps => k_is)
    (case l_l_steps => k_is)
    (case e_l_steps => k_is)
    (case k_l_steps => k_is)
    (case a_l_whole_one => k_is)
    (case l_l_whole_one => k_is)
    (case e_l_whole_one => k_is)
    (case k_l_whole_one => k_is)
    (case a_f_lacquers => k_is)
    (case l_f_lacquers => k_is)
    (case e_f_lacquers => k_is)
    (case k_f_lacquers => k_is)
    (case a_l_yields => k_is)
    (case l_l_yields => k_is)
    (case e_l_yields => k_is)
    (case k_l_yields => k_is)
    (case a_l_law => k_is)
    (case l_l_law => k_is)
    (case e_l_law => k_is)
    (case k_l_law => k_is)
end
