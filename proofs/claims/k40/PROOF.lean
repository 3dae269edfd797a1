import PyProof.Rows.All
import Wide.All
import OpenK.AllK
import Wide.FinOn
import HandS.ForMost
import HandS.ForExc
import HandS.Wide
import HandS.IsInst
import HandS.Codes
import HandS.Flow
import KE.DataMinMax
import HandS.TupAny
import PyProof.MaxThree
import HandS.Star
import HandS.FStr
import HandS.Property
import HandS.SortKw
import HandS.Defaults
import HandS.ClsMeth
import HandS.SlotsOwn
import HandS.ExcIs
import HandS.Gcd
import HandS.MakeKw
import KE.KOpsOwn
import KE.KOwnIter
import HandS.IterVal
import HandS.RaiseMore
import KE.KExcIs
import HandS.SortInts
import HandS.SortRule
import HandS.TryOnly
import HandS.ExcField
import HandS.Style
import HandS.Dict
import HandS.Text
import KE.DataEq
import PyProof.StrOps2
import HandS.TupLe
import KE.GoesEnum
import KE.GoesMore
import KE.KTupSum
import HandS.Zip
import KE.KExcSuper
import KE.KSuper
import HandS.ExcInit
import HandS.FStrTup
import HandS.OwnIter
import HandS.SetFor
import HandS.Conv
import KE.KCallOwn
import HandS.TupSets
import HandS.Keys
import HandS.Strs
import HandS.Comp
import HandS.SetBool
import HandS.StrMore
import PySem.Challenge.RW_dampspells_k40_step_sets_and_stands
set_option Elab.async false
set_option linter.all false
set_option maxRecDepth 100000
section
namespace PL
open PySem PySem.Spec PyProof.Rows L2
/-- the program's classes -/
inductive Cl
  | DampError | BadRatio | BadLacquer | BadKind | BadWeather | BadHour | BadNumber | BadRow | BadSteps | BadHabit | BadPrice | BadDiary | BadReport | TooLarge | NoWorld
  | BadText | Unsound | Strange | Spoilt | Clash | Refused
  | Ratio | Lacquer | Weather | Climate | StepSet | StepWeb | SkyWeb | Habit | HourWeb | PairWeb | HabitWeb | LongWeather | EndlessRow | Diary | Ledger | Paths | Desk
  deriving DecidableEq, Repr
/-- the fields in the order in which __init__ sets them -/
def Cl.fn : Cl → List Str
  | .BadText => ["at"] | .Unsound => ["kind"] | .Strange => ["hour"] | .Spoilt => ["hour"] | .Clash => ["hour"] | .Refused => ["why"]
  | .Ratio => ["top", "bottom"] | .Lacquer => ["a", "b"] | .Weather => ["lengths"] | .Climate => ["kinds"] | .StepSet => ["steps"] | .StepWeb => ["steps", "climate"] | .SkyWeb => ["climate"]
  | .Habit => ["sight", "rows"] | .LongWeather => ["beginning", "again"] | .Diary => ["marks"]
  | _ => []
/-- values as trees -/
inductive D where
  | non | bl (b : Bool) | int (i : Int) | str (s : Str)
  | tup (xs : List D) | lst (xs : List D) | obj (c : Cl) (xs : List D) | cl (c : Cl) | sq (xs : List D)
  | dK (ks : List Key) (xs : List D) | dT (ks : List (List Key)) (xs : List D)
/-- what a list, an object in the making, a dict holds while it may still change -/
inductive CC where
  | lst (xs : List D) | obj (c : Cl) (kvs : List (Str × D)) | dK (kvs : List (Key × D)) | dT (kvs : List (List Key × D))
/-- own: made here; par: a parameter's -/
inductive CK | own | par
  deriving DecidableEq
def CK.isPar : CK → Bool | .par => true | .own => false
inductive Sl where
  | un | dat (d : D) | cel (k : CK) (c : CC) | exn (c : Cl) (pl : Option D)
inductive Ex (α : Type) | ok (a : α) | er (c : Cl) (pl : Option D)
inductive Rv | d (d : D) | c (c : CC)
inductive Fl | nx | bk | ct | rt (r : Rv)
abbrev M (α : Type) := List Sl → Option (Ex α × List Sl)
abbrev Ev := M Rv
def bnd {α β : Type} (m : M α) (k : α → M β) : M β := fun ρ => match m ρ with
  | some (.ok a, ρ1) => k a ρ1
  | some (.er c pl, ρ1) => some (.er c pl, ρ1)
  | none => none
def pur {α : Type} (a : α) : M α := fun ρ => some (.ok a, ρ)
def fai {α : Type} : M α := fun _ => none
def opt {α : Type} : Option α → M α | some a => pur a | none => fai
def CC.froz : CC → Option D
  | .lst xs => some (.lst xs)
  | .obj c kvs => if kvs.map (·.1) = c.fn then some (.obj c (kvs.map (·.2))) else none
  | .dK kvs => some (.dK (kvs.map (·.1)) (kvs.map (·.2)))
  | .dT kvs => some (.dT (kvs.map (·.1)) (kvs.map (·.2)))
variable (K : PySem.W.Frag) (ad : Cl → Addr)
mutual
inductive Rp (F : Hp) : V → D → Prop
  | non : Rp F .non .non
  | bl (b : Bool) : Rp F (.bl b) (.bl b)
  | int (i : Int) : Rp F (.int i) (.int i)
  | str (s : Str) : Rp F (.str s) (.str s)
  | tup {p : Addr} {vs : List V} {ds : List D} : SqT K F p vs → Rps F vs ds → Rp F (.ref p) (.tup ds)
  | lst {p : Addr} {vs : List V} {ds : List D} : F p = some (.lst vs) → Rps F vs ds → Rp F (.ref p) (.lst ds)
  | sq {p : Addr} {vs : List V} {ds : List D} : SqL K F p vs → Rps F vs ds → Rp F (.ref p) (.sq ds)
  | obj {p dx : Addr} {c : Cl} {vs : List V} {ds : List D} : F p = some (.ins (ad c) dx (c.fn.zip vs)) → c.fn.length = vs.length → Rps F vs ds → Rp F (.ref p) (.obj c ds)
  | cl (c : Cl) : Rp F (.ref (ad c)) (.cl c)
  | dK {p : Addr} {ks : List Key} {vs : List V} {ds : List D} : F p = some (.dK (ks.zip vs)) → ks.length = vs.length → Rps F vs ds → Rp F (.ref p) (.dK ks ds)
  | dT {p : Addr} {ks : List (List Key)} {vs : List V} {ds : List D} : F p = some (.dT (ks.zip vs)) → ks.length = vs.length → Rps F vs ds → Rp F (.ref p) (.dT ks ds)
inductive Rps (F : Hp) : List V → List D → Prop
  | nil : Rps F [] []
  | cons {v : V} {d : D} {vs : List V} {ds : List D} : Rp F v d → Rps F vs ds → Rps F (v :: vs) (d :: ds)
end
variable {K : PySem.W.Frag} {ad : Cl → Addr}
theorem sameT {K : PySem.W.Frag} {H H' : Hp} {a : Addr} {xs : List V} (e : Same H H') (h : SqT K H a xs) : SqT K H' a xs := by
  (rcases h with (h | ⟨o, h⟩) | h)
  · exact .inl (.inl (e _ _ h))
  · (exact .inl (.inr ⟨o, e _ _ h⟩))
  · exact .inr h
mutual
theorem Rp.mono {F F' : Hp} (s : Same F F') : ∀ {v : V} {d : D}, Rp K ad F v d → Rp K ad F' v d
  | _, _, .non => .non
  | _, _, .bl b => .bl b
  | _, _, .int i => .int i
  | _, _, .str x => .str x
  | _, _, .tup h r => .tup (sameT s h) (Rps.mono s r)
  | _, _, .lst h r => .lst (s _ _ h) (Rps.mono s r)
  | _, _, .sq h r => .sq (s.seq h) (Rps.mono s r)
  | _, _, .obj h l r => .obj (s _ _ h) l (Rps.mono s r)
  | _, _, .cl c => .cl c
  | _, _, .dK h l r => .dK (s _ _ h) l (Rps.mono s r)
  | _, _, .dT h l r => .dT (s _ _ h) l (Rps.mono s r)
theorem Rps.mono {F F' : Hp} (s : Same F F') : ∀ {vs : List V} {ds : List D}, Rps K ad F vs ds → Rps K ad F' vs ds
  | _, _, .nil => .nil
  | _, _, .cons h r => .cons (Rp.mono s h) (Rps.mono s r)
end
theorem Rps.len {F : Hp} : ∀ {vs : List V} {ds : List D}, Rps K ad F vs ds → vs.length = ds.length
  | _, _, .nil => rfl
  | _, _, .cons _ r => congrArg (· + 1) r.len
theorem Rps.get {F : Hp} : ∀ {vs : List V} {ds : List D} {i : Nat} {d : D}, Rps K ad F vs ds → ds[i]? = some d → ∃ v, vs[i]? = some v ∧ Rp K ad F v d
  | _, _, _, _, .nil, e =>
    by simp at e
  | _, _, 0, _, .cons h _, e => by simp at e; subst e; exact ⟨_, rfl, h⟩
  | _, _, i + 1, d, .cons _ t, e => by
    obtain ⟨v, h1, h2⟩ := Rps.get (i := i) (d := d) t (by simpa using e)
    exact ⟨v, by simpa using h1, h2⟩
theorem Rps.app {F : Hp} : ∀ {vs : List V} {ds : List D} {us : List V} {es : List D}, Rps K ad F vs ds → Rps K ad F us es → Rps K ad F (vs ++ us) (ds ++ es)
  | _, _, _, _, .nil, s => s
  | _, _, _, _, .cons r t, s => .cons r (Rps.app t s)
theorem Rps.snoc {F : Hp} {vs : List V} {ds : List D} {v : V} {d : D} (h : Rps K ad F vs ds) (r : Rp K ad F v d) : Rps K ad F (vs ++ [v]) (ds ++ [d]) := h.app (.cons r .nil)
theorem Rps.set {F : Hp} {v : V} {d : D} (r : Rp K ad F v d) : ∀ {vs : List V} {ds : List D} (i : Nat), Rps K ad F vs ds → Rps K ad F (vs.set i v) (ds.set i d)
  | _, _, _, .nil => .nil
  | _, _, 0, .cons _ t =>
    .cons r t
  | _, _, i + 1, .cons q t => .cons q (Rps.set r i t)
theorem Rps.take {F : Hp} : ∀ {vs : List V} {ds : List D} (n : Nat), Rps K ad F vs ds → Rps K ad F (vs.take n) (ds.take n)
  | _, _, 0, _ => .nil
  | _, _, _ + 1, .nil => .nil
  | _, _, n + 1, .cons r t => .cons r (Rps.take n t)
theorem Rps.drop {F : Hp} : ∀ {vs : List V} {ds : List D} (n : Nat), Rps K ad F vs ds → Rps K ad F (vs.drop n) (ds.drop n)
  | _, _, 0, r => r
  | _, _, _ + 1, .nil => .nil
  | _, _, n + 1, .cons _ t => Rps.drop n t
theorem Rps.rev {F : Hp} : ∀ {vs : List V} {ds : List D}, Rps K ad F vs ds → Rps K ad F vs.reverse ds.reverse
  | _, _, .nil => .nil
  | _, _, .cons r t => by
    (rw [List.reverse_cons, List.reverse_cons])
    exact (Rps.rev t).snoc r
theorem Rps.ints {F : Hp} : ∀ {ns : List Int} {vs : List V}, Rps K ad F vs (ns.map D.int) → vs = ns.map V.int
  | [], _, h => by cases h; rfl
  | n :: ns, _, h => by
    rw [List.map_cons] at h
    cases h with
    | cons h t => cases h; rw [List.map_cons, Rps.ints t]
theorem Rps.bls {F : Hp} : ∀ {ns : List Bool} {vs : List V}, Rps K ad F vs (ns.map D.bl) → vs = ns.map V.bl
  | [], _, h => by cases h; rfl
  | n :: ns, _, h => by
    rw [List.map_cons] at h
    cases h with
    | cons h t => cases h; rw [List.map_cons, Rps.bls t]
theorem Rps.strs {F : Hp} : ∀ {ns : List Str} {vs : List V}, Rps K ad F vs (ns.map D.str) → vs = ns.map V.str
  | [], _, h => by cases h; rfl
  | n :: ns, _, h => by
    rw [List.map_cons] at h
    cases h with
    | cons h t => cases h; rw [List.map_cons, Rps.strs t]
variable (K ad) in
def CelR (F H : Hp) (p : Addr) : CC → Prop
  | .lst xs => ∃ vs, H p = some (.lst vs) ∧ Rps K ad F vs xs
  | .obj c kvs => ∃ dx vs, H p = some (.ins (ad c) dx ((kvs.map (·.1)).zip vs)) ∧ Rps K ad F vs (kvs.map (·.2))
  | .dK kvs => ∃ vs, H p = some (.dK ((kvs.map (·.1)).zip vs)) ∧ Rps K ad F vs (kvs.map (·.2))
  | .dT kvs => ∃ vs, H p = some (.dT ((kvs.map (·.1)).zip vs)) ∧ Rps K ad F vs (kvs.map (·.2))
theorem CelR.at {F H : Hp} {p : Addr} : ∀ {c : CC}, CelR K ad F H p c → ∃ o, H p = some o
  | .lst _, ⟨_, h, _⟩ => ⟨_, h⟩
  | .obj _ _, ⟨_, _, h, _⟩ => ⟨_, h⟩
  | .dK _, ⟨_, h, _⟩ => ⟨_, h⟩
  | .dT _, ⟨_, h, _⟩ => ⟨_, h⟩
theorem CelR.keep {F F' H H' : Hp} {p : Addr} (s : Same F F') (e : H' p = H p) : ∀ {c : CC}, CelR K ad F H p c → CelR K ad F' H' p c
  | .lst _, ⟨vs, h, r⟩ => ⟨vs, e.trans h, r.mono s⟩
  | .obj _ _, ⟨dx, vs, h, r⟩ => ⟨dx, vs, e.trans h, r.mono s⟩
  | .dK _, ⟨vs, h, r⟩ => ⟨vs, e.trans h, r.mono s⟩
  | .dT _, ⟨vs, h, r⟩ => ⟨vs, e.trans h, r.mono s⟩
/-- frozen: what stands at p is data from now on -/
theorem CelR.froz {F H : Hp} {p : Addr} {d : D} : ∀ {c : CC}, CelR K ad F H p c → c.froz = some d → F p = none → ∃ o, H p = some o ∧ Same F (upd F p o) ∧ Rp K ad (upd F p o) (.ref p) d
  | .lst xs, ⟨vs, h, r⟩, e, n => by
    cases e
    have s : Same F (upd F p (.lst vs)) := fun b u q => by rw [upd_ne (ne_of_none q n)]; exact q
    exact ⟨_, h, s, .lst upd_same (r.mono s)⟩
  | .obj c kvs, ⟨dx, vs, h, r⟩, e, n => by
    have e : (if kvs.map (·.1) = c.fn then some (D.obj c (kvs.map (·.2))) else none) = some d := e
    split at e
    · rename_i q
      cases e
      have s : Same F (upd F p (.ins (ad c) dx ((kvs.map (·.1)).zip vs))) := fun b u q => by rw [upd_ne (ne_of_none q n)]; exact q
      refine ⟨_, h, s, .obj (dx := dx) (vs := vs) ?_ ?_ (r.mono s)⟩
      · rw [upd_same, q]
      · have := r.len
        rw [← q, List.length_map, this, List.length_map]
    · cases e
  | .dK kvs, ⟨vs, h, r⟩, e, n => by
    cases e
    have s : Same F (upd F p (.dK ((kvs.map (·.1)).zip vs))) := fun b u q => by rw [upd_ne (ne_of_none q n)]; exact q
    refine ⟨_, h, s, .dK upd_same ?_ (r.mono s)⟩
    have := r.len
    rw [List.length_map, this, List.length_map]
  | .dT kvs, ⟨vs, h, r⟩, e, n => by
    cases e
    have s : Same F (upd F p (.dT ((kvs.map (·.1)).zip vs))) := fun b u q => by rw [upd_ne (ne_of_none q n)]; exact q
    refine ⟨_, h, s, .dT upd_same ?_ (r.mono s)⟩
    have := r.len
    rw [List.length_map, this, List.length_map]
/-- the frame: what must stay, what was data at the start, the parameters that may change, the handled exception -/
structure Fr where
  P : Hp
  F0 : Hp
  pa : Nat → Option Addr
/-- the classes' places, and the exception that a suite holds -/
structure CT where
  ad : Cl → Addr
  ea : Addr := 0
  ecl : Value := .none
  ed : Option Addr := none
abbrev cx (ad : Cl → Addr) : CT := { ad := ad }
variable {ct : CT}
variable (K ad) in
def PlR (F : Hp) (c : Cl) : Option D → Option Addr → Prop
  | none, d => d = none
  | some x, d => ∃ a f v, d = some a ∧ c.fn = [f] ∧ F a = some (.xd [(f, v)]) ∧ Rp K ad F v x
theorem PlR.mono {F F' : Hp} (s : Same F F') {c : Cl} {d : Option Addr} : ∀ {pl : Option D}, PlR K ad F c pl d → PlR K ad F' c pl d
  | none, h => h
  | some _, ⟨a, f, v, h1, h2, h3, h4⟩ => ⟨a, f, v, h1, h2, s _ _ h3, h4.mono s⟩
variable (K ct) in
def SlR (fr : Fr) (F H : Hp) (i : Nat) (o : Option V) : Sl → Prop
  | .un => True
  | .dat d => ∃ v, o = some v ∧ Rp K ct.ad F v d
  | .cel k c => ∃ p, o = some (.ref p) ∧ F p = none ∧ fr.P p = none ∧ (k.isPar = true → fr.pa i = some p) ∧ (k.isPar = false → ∀ j, fr.pa j ≠ some p) ∧ CelR K ct.ad F H p c
  | .exn c pl => o = some (.ref ct.ea) ∧ ct.ecl = .ref (ct.ad c) ∧ PlR K ct.ad F c pl ct.ed
variable (K ct) in
structure Rel (fr : Fr) (F H : Hp) (σ : L2.St) (ρ : List Sl) : Prop where
  len : σ.length = ρ.length
  fh : Same F H
  slot : ∀ (i : Nat) (s : Sl), ρ[i]? = some s → ∃ o, σ[i]? = some o ∧ SlR K ct fr F H i o s
  dis : ∀ (i j : Nat) (k : CK) (c : CC) (k' : CK) (c' : CC) (p : Addr), ρ[i]? = some (.cel k c) → ρ[j]? = some (.cel k' c') → σ[i]? = some (some (.ref p)) → σ[j]? = some (some (.ref p)) → i = j
  keep : Same fr.P H
  fro : ∀ b, fr.P b ≠ none → fr.F0 b = none → F b = none
  pcs : ∀ (i : Nat) (p : Addr), fr.pa i = some p → ∃ k c, ρ[i]? = some (.cel k c) ∧ k.isPar = true
variable (K ad) in
/-- a new cell that no slot has -/
def Fresh (fr : Fr) (F H : Hp) (σ : L2.St) (ρ : List Sl) (p : Addr) (c : CC) : Prop :=
  F p = none ∧ fr.P p = none ∧ (∀ j, fr.pa j ≠ some p) ∧ CelR K ad F H p c ∧ ∀ (i : Nat) (k : CK) (c' : CC), ρ[i]? = some (.cel k c') → σ[i]? ≠ some (some (.ref p))
section
variable {fr : Fr} {F F' H H' : Hp} {σ : L2.St} {ρ : List Sl}
/-- the heaps grow -/
theorem Rel.grow (S : Rel K ct fr F H σ ρ) (f : Same F F') (h : Same H H') (fh : Same F' H') (n : ∀ b, H b ≠ none → F b = none → F' b = none) : Rel K ct fr F' H' σ ρ := by
  refine ⟨S.len, fh, fun i s e => ?_, S.dis, S.keep.trans h, fun b hb h0 => n b (fun z => ?_) (S.fro b hb h0), S.pcs⟩
  · obtain ⟨o, e1, r⟩ := S.slot i s e
    refine ⟨o, e1, ?_⟩
    cases s with
    | un => trivial
    | dat d => obtain ⟨v, e2, r⟩ := r; exact ⟨v, e2, r.mono f⟩
    | cel k c =>
      obtain ⟨p, e2, e3, e4, e5, e6, r⟩ := r
      obtain ⟨o', ho⟩ := r.at
      refine ⟨p, e2, n p (by rw [ho]; simp) e3, e4, e5, e6, r.keep f ?_⟩
      rw [h _ _ ho, ho]
    | exn c pl => exact ⟨r.1, r.2.1, r.2.2.mono f⟩
  · cases q : fr.P b with
    | none => exact hb q
    | some o => rw [S.keep b o q] at z; cases z
theorem Fresh.grow {p : Addr} {c : CC} (S : Fresh K ad fr F H σ ρ p c) (f : Same F F') (h : Same H H') (n : ∀ b, H b ≠ none → F b = none → F' b = none) : Fresh K ad fr F' H' σ ρ p c := by
  obtain ⟨h1, h2, h3, h4, h5⟩ := S
  obtain ⟨o', ho⟩ := h4.at
  exact ⟨n p (by rw [ho]; simp) h1, h2, h3, h4.keep f (by rw [h _ _ ho, ho]), h5⟩
theorem Rel.nn (S : Rel K ct fr F H σ ρ) {p : Addr} (h : H p = none) : F p = none := by
  cases q : F p with
  | none => rfl
  | some o => rw [S.fh p o q] at h; cases h
theorem Rel.np (S : Rel K ct fr F H σ ρ) {p : Addr} (h : H p = none) : fr.P p = none := by
  cases q : fr.P p with
  | none => rfl
  | some o => rw [S.keep p o q] at h; cases h
theorem same_up {H : Hp} {p : Addr} {o : HO} (h : H p = none) : Same H (upd H p o) := fun b u e => by
  rw [upd_ne (ne_of_none e h)]
  exact e
/-- a new object, data at once -/
theorem Rel.newD (S : Rel K ct fr F H σ ρ) {p : Addr} {o : HO} (h : H p = none) : Rel K ct fr (upd F p o) (upd H p o) σ ρ := by
  refine S.grow (same_up (S.nn h)) (same_up h) (fun b u e => ?_) fun b hb e => ?_
  · by_cases q : b = p
    · subst q; rw [upd_same] at e; rw [upd_same]; exact e
    · rw [upd_ne q] at e; rw [upd_ne q]; exact S.fh _ _ e
  · rw [upd_ne (fun q => hb (by rw [q]; exact h))]
    exact e
/-- a new object, not yet data -/
theorem Rel.newC (S : Rel K ct fr F H σ ρ) {p : Addr} {o : HO} (h : H p = none) : Rel K ct fr F (upd H p o) σ ρ :=
  S.grow (Same.refl _) (same_up h) (S.fh.trans (same_up h)) fun _ _ e => e
theorem Rel.cell_at (S : Rel K ct fr F H σ ρ) {i : Nat} {k : CK} {c : CC} (e : ρ[i]? = some (.cel k c)) : ∃ p o, σ[i]? = some (some (.ref p)) ∧ H p = some o := by
  obtain ⟨o, e1, p, e2, _, _, _, _, r⟩ := S.slot i _ e
  obtain ⟨o', ho⟩ := r.at
  exact ⟨p, o', by rw [e1, e2], ho⟩
theorem Rel.fresh (S : Rel K ct fr F H σ ρ) {p : Addr} {o : HO} {c : CC} (h : H p = none) (r : CelR K ct.ad F (upd H p o) p c) : Fresh K ct.ad fr F (upd H p o) σ ρ p c := by
  refine ⟨S.nn h, S.np h, fun j e => ?_, r, fun i k c' e1 e2 => ?_⟩
  · obtain ⟨k, c, e1, hk⟩ := S.pcs j p e
    obtain ⟨o1, _, p', rfl, _, _, e5, e6, r'⟩ := S.slot j _ e1
    obtain ⟨o', ho⟩ := r'.at
    have z := e5 hk
    rw [e] at z
    cases z
    rw [h] at ho
    cases ho
  · obtain ⟨p', o', e3, ho⟩ := S.cell_at e1
    rw [e3] at e2
    cases e2
    rw [h] at ho
    cases ho
/-- a slot gets data -/
theorem Rel.setD (S : Rel K ct fr F H σ ρ) {i : Nat} {v : V} {d : D} (r : Rp K ct.ad F v d) (np : fr.pa i = none) : Rel K ct fr F H (σ.set i (some v)) (ρ.set i (.dat d)) := by
  have dn : ∀ {j : Nat} {k : CK} {c : CC}, (ρ.set i (.dat d))[j]? = some (.cel k c) → j ≠ i ∧ ρ[j]? = some (.cel k c) := fun {j k c} e => by
    by_cases q : i = j
    · subst q
      by_cases l : i < ρ.length
      · rw [List.getElem?_set_self l] at e; cases e
      · rw [List.getElem?_eq_none (by simp; omega)] at e; cases e
    · rw [List.getElem?_set_ne q] at e; exact ⟨fun z => q z.symm, e⟩
  refine ⟨by simp [S.len], S.fh, fun j s e => ?_, fun a b k c k' c' p e1 e2 e3 e4 => ?_, S.keep, S.fro, fun j p e => ?_⟩
  · by_cases q : i = j
    · subst q
      by_cases l : i < ρ.length
      · rw [List.getElem?_set_self l] at e
        cases e
        exact ⟨some v, by rw [List.getElem?_set_self (by rw [S.len]; exact l)], v, rfl, r⟩
      · rw [List.getElem?_eq_none (by simp; omega)] at e; cases e
    · rw [List.getElem?_set_ne q] at e
      obtain ⟨o, h1, h2⟩ := S.slot j s e
      exact ⟨o, by rw [List.getElem?_set_ne q]; exact h1, h2⟩
  · obtain ⟨n1, f1⟩ := dn e1
    obtain ⟨n2, f2⟩ := dn e2
    rw [List.getElem?_set_ne (Ne.symm n1)] at e3
    rw [List.getElem?_set_ne (Ne.symm n2)] at e4
    exact S.dis a b k c k' c' p f1 f2 e3 e4
  · obtain ⟨k, c, h1, h2⟩ := S.pcs j p e
    refine ⟨k, c, ?_, h2⟩
    rw [List.getElem?_set_ne (fun q => by rw [q, e] at np; cases np)]
    exact h1
/-- a slot is forgotten, what stands there stays -/
theorem Rel.setU (S : Rel K ct fr F H σ ρ) {i : Nat} (np : fr.pa i = none) {w : Option V} : Rel K ct fr F H (σ.set i w) (ρ.set i .un) := by
  have dn : ∀ {j : Nat} {k : CK} {c : CC}, (ρ.set i .un)[j]? = some (.cel k c) → j ≠ i ∧ ρ[j]? = some (.cel k c) := fun {j k c} e => by
    by_cases q : i = j
    · subst q
      by_cases l : i < ρ.length
      · rw [List.getElem?_set_self l] at e; cases e
      · rw [List.getElem?_eq_none (by simp; omega)] at e; cases e
    · rw [List.getElem?_set_ne q] at e; exact ⟨fun z => q z.symm, e⟩
  refine ⟨by simp [S.len], S.fh, fun j s e => ?_, fun a b k c k' c' p e1 e2 e3 e4 => ?_, S.keep, S.fro, fun j p e => ?_⟩
  · by_cases q : i = j
    · subst q
      by_cases l : i < ρ.length
      · rw [List.getElem?_set_self l] at e
        cases e
        exact ⟨w, by rw [List.getElem?_set_self (by rw [S.len]; exact l)], trivial⟩
      · rw [List.getElem?_eq_none (by simp; omega)] at e; cases e
    · rw [List.getElem?_set_ne q] at e
      obtain ⟨o, h1, h2⟩ := S.slot j s e
      exact ⟨o, by rw [List.getElem?_set_ne q]; exact h1, h2⟩
  · obtain ⟨n1, f1⟩ := dn e1
    obtain ⟨n2, f2⟩ := dn e2
    rw [List.getElem?_set_ne (Ne.symm n1)] at e3
    rw [List.getElem?_set_ne (Ne.symm n2)] at e4
    exact S.dis a b k c k' c' p f1 f2 e3 e4
  · obtain ⟨k, c, h1, h2⟩ := S.pcs j p e
    refine ⟨k, c, ?_, h2⟩
    rw [List.getElem?_set_ne (fun q => by rw [q, e] at np; cases np)]
    exact h1
theorem set_id {α : Type} {xs : List α} {i : Nat} {x : α} (h : xs[i]? = some x) : xs.set i x = xs := by
  (refine List.ext_getElem? fun j => ?_)
  by_cases q : i = j
  · subst q
    rw [List.getElem?_set_self (List.getElem?_eq_some_iff.mp h).1, h]
  · rw [List.getElem?_set_ne q]
/-- a slot is forgotten -/
theorem Rel.unR (S : Rel K ct fr F H σ ρ) {i : Nat} (np : fr.pa i = none) : Rel K ct fr F H σ (ρ.set i .un) := by
  by_cases l : i < σ.length
  · have e : σ.set i σ[i] = σ := set_id (List.getElem?_eq_getElem l)
    have := S.setU (w := σ[i]) np
    rw [e] at this
    exact this
  · rw [List.set_eq_of_length_le (by rw [← S.len]; omega)]
    exact S
/-- a slot gets a cell that nobody has -/
theorem Rel.setC (S : Rel K ct fr F H σ ρ) {i : Nat} {p : Addr} {c : CC} (r : Fresh K ct.ad fr F H σ ρ p c) (np : fr.pa i = none) : Rel K ct fr F H (σ.set i (some (.ref p))) (ρ.set i (.cel .own c)) := by
  obtain ⟨r1, r2, r3, r4, r5⟩ := r
  have dn : ∀ {j : Nat} {k : CK} {c' : CC}, (ρ.set i (.cel .own c))[j]? = some (.cel k c') → (j = i) ∨ (j ≠ i ∧ ρ[j]? = some (.cel k c')) := fun {j k c'} e => by
    by_cases q : i = j
    · exact .inl q.symm
    · rw [List.getElem?_set_ne q] at e; exact .inr ⟨fun z => q z.symm, e⟩
  refine ⟨by simp [S.len], S.fh, fun j s e => ?_, fun a b k d k' d' q e1 e2 e3 e4 => ?_, S.keep, S.fro, fun j p e => ?_⟩
  · by_cases q : i = j
    · subst q
      by_cases l : i < ρ.length
      · rw [List.getElem?_set_self l] at e
        cases e
        exact ⟨_, by rw [List.getElem?_set_self (by rw [S.len]; exact l)], p, rfl, r1, r2, (fun z => by cases z), (fun _ => r3), r4⟩
      · rw [List.getElem?_eq_none (by simp; omega)] at e; cases e
    · rw [List.getElem?_set_ne q] at e
      obtain ⟨o, h1, h2⟩ := S.slot j s e
      exact ⟨o, by rw [List.getElem?_set_ne q]; exact h1, h2⟩
  · have at_i : ∀ {z : Option V}, (σ.set i (some (.ref p)))[i]? = some z → z = some (.ref p) := fun {z} h => by
      by_cases l : i < σ.length
      · rw [List.getElem?_set_self l] at h; cases h; rfl
      · rw [List.getElem?_eq_none (by simp; omega)] at h; cases h
    rcases dn e1 with z1 | ⟨n1, f1⟩
    · rcases dn e2 with z2 | ⟨n2, f2⟩
      · rw [z1, z2]
      · subst z1
        have := at_i e3
        cases this
        rw [List.getElem?_set_ne (Ne.symm n2)] at e4
        exact absurd e4 (r5 _ _ _ f2)
    · rcases dn e2 with z2 | ⟨n2, f2⟩
      · subst z2
        have := at_i e4
        cases this
        rw [List.getElem?_set_ne (Ne.symm n1)] at e3
        exact absurd e3 (r5 _ _ _ f1)
      · rw [List.getElem?_set_ne (Ne.symm n1)] at e3
        rw [List.getElem?_set_ne (Ne.symm n2)] at e4
        exact S.dis a b k d k' d' q f1 f2 e3 e4
  · obtain ⟨k, c, h1, h2⟩ := S.pcs j p e
    refine ⟨k, c, ?_, h2⟩
    rw [List.getElem?_set_ne (fun q => by rw [q, e] at np; cases np)]
    exact h1
/-- a cell's content changes -/
theorem Rel.updC (S : Rel K ct fr F H σ ρ) {i : Nat} {p : Addr} {k k' : CK} {c c' : CC} {o : HO} (e : ρ[i]? = some (.cel k c)) (es : σ[i]? = some (some (.ref p))) (hk : k'.isPar = k.isPar) (r : CelR K ct.ad F (upd H p o) p c') : Rel K ct fr F (upd H p o) σ (ρ.set i (.cel k' c')) := by
  obtain ⟨o1, q1, p', q2, q3, q4, q5, q6, q7⟩ := S.slot i _ e
  rw [q1] at es
  cases es
  cases q2
  have il := (List.getElem?_eq_some_iff.mp e).1
  have fp : ∀ b u, F b = some u → b ≠ p := fun b u z w => by rw [w, q3] at z; cases z
  have dn : ∀ {j : Nat} {k1 : CK} {c1 : CC}, (ρ.set i (.cel k' c'))[j]? = some (.cel k1 c1) → ∃ k2 c2, ρ[j]? = some (.cel k2 c2) := fun {j k1 c1} z => by
    by_cases q : i = j
    · subst q; exact ⟨k, c, e⟩
    · rw [List.getElem?_set_ne q] at z; exact ⟨_, _, z⟩
  refine ⟨by simp [S.len], fun b u z => ?_, fun j s z => ?_, fun a b k1 d k2 d' q e1 e2 e3 e4 => ?_, fun b u z => ?_, S.fro, fun j q z => ?_⟩
  · rw [upd_ne (fp b u z)]; exact S.fh _ _ z
  · by_cases q : i = j
    · subst q
      rw [List.getElem?_set_self il] at z
      cases z
      exact ⟨_, q1, p, rfl, q3, q4, (fun y => q5 (hk ▸ y)), (fun y => q6 (hk ▸ y)), r⟩
    · rw [List.getElem?_set_ne q] at z
      obtain ⟨u, h1, h2⟩ := S.slot j s z
      refine ⟨u, h1, ?_⟩
      cases s with
      | un => trivial
      | dat d => exact h2
      | cel k1 c1 =>
        obtain ⟨p1, g1, g2, g3, g4, g5, g6⟩ := h2
        subst g1
        refine ⟨p1, rfl, g2, g3, g4, g5, g6.keep (Same.refl _) ?_⟩
        rw [upd_ne]
        intro w
        subst w
        exact q (S.dis i j k c k1 c1 p1 e z q1 h1)
      | exn _ _ => exact h2
  · obtain ⟨_, _, f1⟩ := dn e1
    obtain ⟨_, _, f2⟩ := dn e2
    exact S.dis a b _ _ _ _ q f1 f2 e3 e4
  · rw [upd_ne (fun w => by rw [w, q4] at z; cases z)]; exact S.keep _ _ z
  · obtain ⟨k1, c1, h1, h2⟩ := S.pcs j q z
    by_cases w : i = j
    · subst w
      rw [e] at h1
      cases h1
      exact ⟨k', c', by rw [List.getElem?_set_self il], by rw [hk]; exact h2⟩
    · exact ⟨k1, c1, by rw [List.getElem?_set_ne w]; exact h1, h2⟩
/-- a cell becomes data -/
theorem Rel.frz (S : Rel K ct fr F H σ ρ) {i : Nat} {k : CK} {c : CC} {d : D} (e : ρ[i]? = some (.cel k c)) (hk : k.isPar = false) (hf : c.froz = some d) :
    ∃ p F', σ[i]? = some (some (.ref p)) ∧ Same F F' ∧ Rp K ct.ad F' (.ref p) d ∧ Rel K ct fr F' H σ (ρ.set i (.dat d)) := by
  obtain ⟨o1, q1, p, q2, q3, q4, q5, q6, q7⟩ := S.slot i _ e
  subst q2
  obtain ⟨o, ho, sm, rp⟩ := q7.froz hf q3
  have il := (List.getElem?_eq_some_iff.mp e).1
  have np : fr.pa i = none := by
    cases z : fr.pa i with
    | none => rfl
    | some q =>
      obtain ⟨k1, c1, h1, h2⟩ := S.pcs i q z
      rw [e] at h1
      cases h1
      rw [hk] at h2
      cases h2
  have dn : ∀ {j : Nat} {k1 : CK} {c1 : CC}, (ρ.set i (.dat d))[j]? = some (.cel k1 c1) → j ≠ i ∧ ρ[j]? = some (.cel k1 c1) := fun {j k1 c1} z => by
    by_cases q : i = j
    · subst q; rw [List.getElem?_set_self il] at z; cases z
    · rw [List.getElem?_set_ne q] at z; exact ⟨fun w => q w.symm, z⟩
  refine ⟨p, _, q1, sm, rp, by simp [S.len], fun b u z => ?_, fun j s z => ?_, fun a b k1 d1 k2 d2 q e1 e2 e3 e4 => ?_, S.keep, fun b hb h0 => ?_, fun j q z => ?_⟩
  · by_cases w : b = p
    · subst w; rw [upd_same] at z; cases z; exact ho
    · rw [upd_ne w] at z; exact S.fh _ _ z
  · by_cases q : i = j
    · subst q
      rw [List.getElem?_set_self il] at z
      cases z
      exact ⟨_, q1, _, rfl, rp⟩
    · rw [List.getElem?_set_ne q] at z
      obtain ⟨u, h1, h2⟩ := S.slot j s z
      refine ⟨u, h1, ?_⟩
      cases s with
      | un => trivial
      | dat d => obtain ⟨v, g1, g2⟩ := h2; exact ⟨v, g1, g2.mono sm⟩
      | cel k1 c1 =>
        obtain ⟨p1, g1, g2, g3, g4, g5, g6⟩ := h2
        subst g1
        refine ⟨p1, rfl, ?_, g3, g4, g5, g6.keep sm rfl⟩
        rw [upd_ne]
        · exact g2
        · intro w
          subst w
          exact q (S.dis i j k c k1 c1 p1 e z q1 h1)
      | exn _ _ => exact ⟨h2.1, h2.2.1, h2.2.2.mono sm⟩
  · obtain ⟨_, f1⟩ := dn e1
    obtain ⟨_, f2⟩ := dn e2
    exact S.dis a b _ _ _ _ q f1 f2 e3 e4
  · rw [upd_ne (fun w => hb (by rw [w]; exact q4))]
    exact S.fro b hb h0
  · obtain ⟨k1, c1, h1, h2⟩ := S.pcs j q z
    exact ⟨k1, c1, by rw [List.getElem?_set_ne (fun w => by rw [w, z] at np; cases np)]; exact h1, h2⟩
/-- a new cell becomes data -/
theorem Fresh.frz {p : Addr} {c : CC} {d : D} (r : Fresh K ct.ad fr F H σ ρ p c) (S : Rel K ct fr F H σ ρ) (hf : c.froz = some d) : ∃ F', Same F F' ∧ Rp K ct.ad F' (.ref p) d ∧ Rel K ct fr F' H σ ρ := by
  obtain ⟨r1, r2, r3, r4, r5⟩ := r
  obtain ⟨o, ho, sm, rp⟩ := r4.froz hf r1
  refine ⟨_, sm, rp, S.len, fun b u z => ?_, fun j s z => ?_, S.dis, S.keep, fun b hb h0 => ?_, S.pcs⟩
  · by_cases w : b = p
    · subst w; rw [upd_same] at z; cases z; exact ho
    · rw [upd_ne w] at z; exact S.fh _ _ z
  · obtain ⟨u, h1, h2⟩ := S.slot j s z
    refine ⟨u, h1, ?_⟩
    cases s with
    | un => trivial
    | dat d => obtain ⟨v, g1, g2⟩ := h2; exact ⟨v, g1, g2.mono sm⟩
    | cel k1 c1 =>
      obtain ⟨p1, g1, g2, g3, g4, g5, g6⟩ := h2
      subst g1
      refine ⟨p1, rfl, ?_, g3, g4, g5, g6.keep sm rfl⟩
      rw [upd_ne]
      · exact g2
      · intro w
        subst w
        exact r5 _ _ _ z h1
    | exn _ _ => exact ⟨h2.1, h2.2.1, h2.2.2.mono sm⟩
  · rw [upd_ne (fun w => hb (by rw [w]; exact r2))]
    exact S.fro b hb h0
end
end PL
end
section
namespace PL
open PySem PySem.Spec PyProof.Rows L2
variable {K : PySem.W.Frag} {ad : Cl → Addr} {ct : CT}
abbrev Rel3 (β α : Type) := Fr → Hp → Hp → L2.St → List Sl → β → α → Prop
variable (K ct) in
def Tat {β α : Type} (R : Rel3 β α) (W : WX) (fr : Fr) (F : Hp) (ρ : List Sl) (m : M α) (σ : L2.St) (Q : β → Hp → Prop) : Prop :=
  ∃ r ρ', m ρ = some (r, ρ') ∧ match r with
    | .ok a => ∀ v F' H', Same F F' → Rel K ct fr F' H' σ ρ' → R fr F' H' σ ρ' v a → Q v H'
    | .er c pl => ∀ d F' H', Same F F' → Rel K ct fr F' H' σ ρ' → PlR K ct.ad F' c pl d → W (.ref (ct.ad c)) d σ H'
variable (K ct) in
def T {β α : Type} (R : Rel3 β α) (W : WX) (m : M α) : L2.St → Hp → (β → Hp → Prop) → Prop := fun σ H Q => ∃ fr F ρ, Rel K ct fr F H σ ρ ∧ Tat K ct R W fr F ρ m σ Q
variable (K ad) in
def RD : Rel3 V D := fun _ F _ _ _ v d => Rp K ad F v d
variable (K ad) in
def RV : Rel3 V Rv := fun fr F H σ ρ v r => match r with
  | .d d => Rp K ad F v d
  | .c c => ∃ p, v = .ref p ∧ Fresh K ad fr F H σ ρ p c
def RB : Rel3 Bool Bool := fun _ _ _ _ _ b a => b = a
/-- an argument: data, or a cell that stands in slot j -/
inductive Ar | d (d : D) | c (j : Nat)
variable (K ad) in
def RA1 (F : Hp) (σ : L2.St) (v : V) : Ar → Prop
  | .d d => Rp K ad F v d
  | .c j => σ[j]? = some (some v)
variable (K ad) in
inductive RAs (F : Hp) (σ : L2.St) : List V → List Ar → Prop
  | nil : RAs F σ [] []
  | cons {v : V} {a : Ar} {vs : List V} {as : List Ar} : RA1 K ad F σ v a → RAs F σ vs as → RAs F σ (v :: vs) (a :: as)
variable (K ad) in
def RA : Rel3 (List V) (List Ar) := fun _ F _ σ _ vs as => RAs K ad F σ vs as
variable (K ad) in
def RDs : Rel3 (List V) (List D) := fun _ F _ _ _ vs ds => Rps K ad F vs ds
variable {fr : Fr} {F F' H H' : Hp} {σ : L2.St} {ρ : List Sl} {W : WX}
section
variable {α β γ δ : Type} {R : Rel3 β α} {R' : Rel3 δ γ} {m : M α} {k : α → M γ} {Q : δ → Hp → Prop} {Q1 : β → Hp → Prop}
theorem Tat.bndT (h : Tat K ct R' W fr F ρ (PL.bnd m k) σ Q)
    (hq : ∀ F1 H1 ρ1 v a, Same F F1 → Rel K ct fr F1 H1 σ ρ1 → R fr F1 H1 σ ρ1 v a → Tat K ct R' W fr F1 ρ1 (k a) σ Q → Q1 v H1) : Tat K ct R W fr F ρ m σ Q1 := by
  obtain ⟨r, ρ', e, q⟩ := h
  unfold PL.bnd at e
  cases em : m ρ with
  | none => rw [em] at e; cases e
  | some x =>
    obtain ⟨r1, ρ1⟩ := x
    rw [em] at e
    cases r1 with
    | ok a =>
      refine ⟨.ok a, ρ1, em, fun v F1 H1 s1 S1 r1 => hq F1 H1 ρ1 v a s1 S1 r1 ⟨r, ρ', e, ?_⟩⟩
      cases r with
      | ok z => exact fun v F' H' s' => q v F' H' (s1.trans s')
      | er c pl => exact fun d F' H' s' => q d F' H' (s1.trans s')
    | er c pl =>
      refine ⟨.er c pl, ρ1, em, ?_⟩
      have e : (some (Ex.er c pl, ρ1) : Option (Ex γ × List Sl)) = some (r, ρ') := e
      cases e
      exact q
theorem Tat.bnd (h : Tat K ct R' W fr F ρ (PL.bnd m k) σ Q) (S : Rel K ct fr F H σ ρ)
    (hq : ∀ F1 H1 ρ1 v a, Same F F1 → Rel K ct fr F1 H1 σ ρ1 → R fr F1 H1 σ ρ1 v a → Tat K ct R' W fr F1 ρ1 (k a) σ Q → Q1 v H1) : T K ct R W m σ H Q1 := ⟨fr, F, ρ, S, h.bndT hq⟩
theorem Tat.ok {a : γ} (h : Tat K ct R' W fr F ρ (pur a) σ Q) : ∀ v F' H', Same F F' → Rel K ct fr F' H' σ ρ → R' fr F' H' σ ρ v a → Q v H' := by
  obtain ⟨r, ρ', e, q⟩ := h
  cases e
  exact q
theorem Tat.opt {o : Option γ} (h : Tat K ct R' W fr F ρ (PL.opt o) σ Q) : ∃ a, o = some a ∧ ∀ v F' H', Same F F' → Rel K ct fr F' H' σ ρ → R' fr F' H' σ ρ v a → Q v H' := by
  cases o with
  | none => obtain ⟨r, ρ', e, q⟩ := h; cases e
  | some a => exact ⟨a, rfl, h.ok⟩
theorem Tat.to (h : Tat K ct R W fr F ρ m σ Q1) (S : Rel K ct fr F H σ ρ) : T K ct R W m σ H Q1 := ⟨fr, F, ρ, S, h⟩
theorem Tat.mono (h : Tat K ct R W fr F ρ m σ Q1) (s : Same F F') : Tat K ct R W fr F' ρ m σ Q1 := by
  obtain ⟨r, ρ', e, q⟩ := h
  refine ⟨r, ρ', e, ?_⟩
  cases r with
  | ok z => exact fun v F' H' s' => q v F' H' (s.trans s')
  | er c pl => exact fun d F' H' s' => q d F' H' (s.trans s')
end
/-- the value as data: a new cell is frozen -/
def dat (m : Ev) : M D := bnd m fun r => match r with
  | .d d => pur d
  | .c c => opt c.froz
theorem Tat.datT {δ γ : Type} {R' : Rel3 δ γ} {m : Ev} {k : D → M γ} {Q : δ → Hp → Prop} {Q1 : V → Hp → Prop} (h : Tat K ct R' W fr F ρ (PL.bnd (PL.dat m) k) σ Q)
    (hq : ∀ F1 H1 ρ1 v d, Same F F1 → Rel K ct fr F1 H1 σ ρ1 → Rp K ct.ad F1 v d → Tat K ct R' W fr F1 ρ1 (k d) σ Q → Q1 v H1) : Tat K ct (RV K ct.ad) W fr F ρ m σ Q1 := by
  have e : PL.bnd (PL.dat m) k = PL.bnd m fun r => PL.bnd (match r with | Rv.d d => pur d | Rv.c c => PL.opt c.froz) k := by
    funext ρ
    unfold PL.dat PL.bnd
    cases em : m ρ with
    | none => rfl
    | some x =>
      obtain ⟨r1, ρ1⟩ := x
      cases r1 with
      | ok a => cases a <;> rfl
      | er c pl => rfl
  rw [e] at h
  refine h.bndT fun F1 H1 ρ1 v r s1 S1 r1 q => ?_
  cases r with
  | d d => exact hq F1 H1 ρ1 v d s1 S1 r1 (by obtain ⟨r, ρ', e, q⟩ := q; exact ⟨r, ρ', e, q⟩)
  | c c =>
    obtain ⟨p, ev, fp⟩ := r1
    subst ev
    cases ef : c.froz with
    | none =>
      obtain ⟨r, ρ', e, q⟩ := q
      have e : PL.bnd (PL.opt c.froz) k ρ1 = some (r, ρ') := e
      rw [ef] at e
      cases e
    | some d =>
      obtain ⟨F2, s2, rp, S2⟩ := fp.frz S1 ef
      refine hq F2 H1 ρ1 _ d (s1.trans s2) S2 rp ?_
      have q2 := q.mono s2
      obtain ⟨r, ρ', e, q⟩ := q2
      have e : PL.bnd (PL.opt c.froz) k ρ1 = some (r, ρ') := e
      rw [ef] at e
      exact ⟨r, ρ', e, q⟩
theorem Tat.dat {δ γ : Type} {R' : Rel3 δ γ} {m : Ev} {k : D → M γ} {Q : δ → Hp → Prop} {Q1 : V → Hp → Prop} (h : Tat K ct R' W fr F ρ (PL.bnd (PL.dat m) k) σ Q) (S : Rel K ct fr F H σ ρ)
    (hq : ∀ F1 H1 ρ1 v d, Same F F1 → Rel K ct fr F1 H1 σ ρ1 → Rp K ct.ad F1 v d → Tat K ct R' W fr F1 ρ1 (k d) σ Q → Q1 v H1) : T K ct (RV K ct.ad) W m σ H Q1 := ⟨fr, F, ρ, S, h.datT hq⟩
/-! the derivations weakened -/
section
variable {X : Cx}
theorem _root_.L2.PE.imp {e : Expr} {t t' : TE} (h : PE X e t) (w : ∀ σ H Q, t' σ H Q → t σ H Q) : PE X e t' := ⟨fun pins s σ H Q I q => h.run pins s σ H Q I (w σ H Q q)⟩
theorem _root_.L2.PT.imp {e : Expr} {t t' : TT} (h : PT X e t) (w : ∀ σ H Q, t' σ H Q → t σ H Q) : PT X e t' := ⟨fun pins s σ H Q I q => h.run pins s σ H Q I (w σ H Q q)⟩
theorem _root_.L2.PW.imp {e : Expr} {t t' : TT} (h : PW X e t) (w : ∀ σ H Q, t' σ H Q → t σ H Q) : PW X e t' := ⟨fun wh pins s σ H Q I q => h.run wh pins s σ H Q I (w σ H Q q)⟩
theorem _root_.L2.PTs.imp {es : List Expr} {t t' : TT} (h : PTs X es t) (w : ∀ σ H Q, t' σ H Q → t σ H Q) : PTs X es t' := ⟨fun pins s σ H Q I q => h.run pins s σ H Q I (w σ H Q q)⟩
theorem _root_.L2.PA.imp {es : List Expr} {t t' : TA} (h : PA X es t) (w : ∀ σ H Q, t' σ H Q → t σ H Q) : PA X es t' := ⟨fun pos pins s σ H Q I q => h.run pos pins s σ H Q I (w σ H Q q)⟩
theorem _root_.L2.PS.imp {st : Stmt} {t t' : TS} (h : PS X st t) (w : ∀ D σ H, t' D σ H → t D σ H) : PS X st t' := ⟨fun pins s σ H D I q => h.run pins s σ H D I (w D σ H q)⟩
theorem _root_.L2.PSs.imp {st : List Stmt} {t t' : TS} (h : PSs X st t) (w : ∀ D σ H, t' D σ H → t D σ H) : PSs X st t' := ⟨fun pins s σ H D I q => h.run pins s σ H D I (w D σ H q)⟩
theorem _root_.L2.PG.imp {e : Expr} {t t' : TG} (h : PG X e t) (w : ∀ v σ H Q, t' v σ H Q → t v σ H Q) : PG X e t' := ⟨fun pins s σ H v u Q I r q => h.run pins s σ H v u Q I r (w v σ H Q q)⟩
theorem _root_.L2.PO.imp {e : Option Expr} {t t' : TO} (h : PO X e t) (w : ∀ σ H Q, t' σ H Q → t σ H Q) : PO X e t' := ⟨fun pins s σ H Q I q => h.run pins s σ H Q I (w σ H Q q)⟩
theorem _root_.L2.PI.imp {tg e : Expr} {t t' : TI} (h : PI X tg e t) (w : ∀ σ H Q, t' σ H Q → t σ H Q) : PI X tg e t' := ⟨fun pins s σ H Q I q => h.run pins s σ H Q I (w σ H Q q)⟩
end
/-! ### expressions -/
variable (K ct) in
abbrev TP (W : WX) (m : Ev) : TE := T K ct (RV K ct.ad) W m
variable (K ct) in
abbrev TB (W : WX) (m : M Bool) : TT := T K ct RB W m
variable (K ct) in
abbrev TAr (W : WX) (m : M (List Ar)) : TA := T K ct (RA K ct.ad) W m
def vD (d : D) : Ev := pur (.d d)
/-- a name -/
def evV (i : Nat) : Ev := fun ρ => match ρ[i]? with
  | some (.dat d) => some (.ok (.d d), ρ)
  | _ => none
/-- .. that is data from now on -/
def evF (i : Nat) : Ev := fun ρ => match ρ[i]? with
  | some (.dat d) => some (.ok (.d d), ρ)
  | some (.cel .own c) => (c.froz).map fun d => (.ok (.d d), ρ.set i (.dat d))
  | _ => none
/-- .. that hands over its cell -/
def evM (i : Nat) : Ev := fun ρ => match ρ[i]? with
  | some (.dat d) => some (.ok (.d d), ρ)
  | some (.cel .own c) => some (.ok (.c c), ρ.set i .un)
  | _ => none
section
variable {X : Cx} {a b c : Expr} {fa fb fc : Ev} {pos : Pos}
theorem w_v {i : Nat} {Q : VK} (h : TP K ct W (evV i) σ H Q) : tVar i σ H Q := by
  obtain ⟨fr, F, ρ, S, r, ρ', e, q⟩ := h
  unfold evV at e
  split at e
  · rename_i d hd
    cases e
    obtain ⟨o, h1, v, h2, h3⟩ := S.slot i _ hd
    subst h2
    exact ⟨v, h1, q v F H (Same.refl _) S h3⟩
  · cases e
theorem w_f {i : Nat} {Q : VK} (h : TP K ct W (evF i) σ H Q) : tVar i σ H Q := by
  obtain ⟨fr, F, ρ, S, r, ρ', e, q⟩ := h
  unfold evF at e
  split at e
  · rename_i d hd
    cases e
    obtain ⟨o, h1, v, h2, h3⟩ := S.slot i _ hd
    subst h2
    exact ⟨v, h1, q v F H (Same.refl _) S h3⟩
  · rename_i c hc
    cases ef : c.froz with
    | none => rw [ef] at e; cases e
    | some d =>
      rw [ef] at e
      cases e
      obtain ⟨p, F', h1, s, rp, S'⟩ := S.frz hc rfl ef
      exact ⟨_, h1, q _ F' H s S' rp⟩
  · cases e
theorem Rel.own (S : Rel K ct fr F H σ ρ) {i : Nat} {k : CK} {c : CC} (e : ρ[i]? = some (.cel k c)) (hk : k.isPar = false) : fr.pa i = none := by
  cases z : fr.pa i with
  | none => rfl
  | some q =>
    obtain ⟨k1, c1, h1, h2⟩ := S.pcs i q z
    rw [e] at h1
    cases h1
    rw [hk] at h2
    cases h2
theorem w_m {i : Nat} {Q : VK} (h : TP K ct W (evM i) σ H Q) : tVar i σ H Q := by
  obtain ⟨fr, F, ρ, S, r, ρ', e, q⟩ := h
  unfold evM at e
  split at e
  · rename_i d hd
    cases e
    obtain ⟨o, h1, v, h2, h3⟩ := S.slot i _ hd
    subst h2
    exact ⟨v, h1, q v F H (Same.refl _) S h3⟩
  · rename_i c hc
    cases e
    have np := S.own hc rfl
    obtain ⟨o, h1, p, h2, h3, h4, h5, h6, h7⟩ := S.slot i _ hc
    subst h2
    refine ⟨_, h1, q _ F H (Same.refl _) (S.unR np) ⟨p, rfl, h3, h4, h6 rfl, h7, fun j k c' z1 z2 => ?_⟩⟩
    by_cases w : i = j
    · subst w
      rw [List.getElem?_set_self (List.getElem?_eq_some_iff.mp hc).1] at z1
      cases z1
    · rw [List.getElem?_set_ne w] at z1
      exact w (S.dis i j _ _ _ _ p hc z1 h1 z2)
  · cases e
theorem pp_v (i : Nat) {x : Str} (h : PE X (.Name x pos) (tVar i)) : PE X (.Name x pos) (TP K ct W (evV i)) := h.imp fun _ _ _ => w_v
theorem pp_f (i : Nat) {x : Str} (h : PE X (.Name x pos) (tVar i)) : PE X (.Name x pos) (TP K ct W (evF i)) := h.imp fun _ _ _ => w_f
theorem pp_m (i : Nat) {x : Str} (h : PE X (.Name x pos) (tVar i)) : PE X (.Name x pos) (TP K ct W (evM i)) := h.imp fun _ _ _ => w_m
/-- a value that needs no heap -/
def D.toV : D → Option V
  | .non => some .non | .bl b => some (.bl b) | .int i => some (.int i) | .str s => some (.str s) | _ => none
theorem D.toV_rp {d : D} {v : V} (h : d.toV = some v) : Rp K ct.ad F v d := by
  cases d <;> cases h <;> constructor
theorem w_c {d : D} {v : V} {Q : VK} (hd : d.toV = some v) (h : TP K ct W (vD d) σ H Q) : tC v σ H Q := by
  obtain ⟨fr, F, ρ, S, h⟩ := h
  exact h.ok v F H (Same.refl _) S (D.toV_rp hd)
theorem pp_c {e : Expr} {d : D} {v : V} (h : PE X e (tC v)) (hd : d.toV = some v := by rfl) : PE X e (TP K ct W (vD d)) := h.imp fun _ _ _ => w_c hd
/-- a two-place operation on data -/
def ev2 (g : D → D → Option D) (a b : Ev) : Ev := bnd (dat a) fun x => bnd (dat b) fun y => opt ((g x y).map Rv.d)
def ev2c (g : D → D → Option CC) (a b : Ev) : Ev := bnd (dat a) fun x => bnd (dat b) fun y => opt ((g x y).map Rv.c)
def ev1 (g : D → Option D) (a : Ev) : Ev := bnd (dat a) fun x => opt ((g x).map Rv.d)
variable (K ad) in
def O2 (r : R2) (g : D → D → Option D) : Prop := ∀ {F H : Hp} {x y : V} {d e z : D} {Q : VK}, Same F H → Rp K ad F x d → Rp K ad F y e → g d e = some z → (∀ v, Rp K ad F v z → Q v H) → r x y H Q
variable (K ad) in
def O1 (r : V → Hp → VK → Prop) (g : D → Option D) : Prop := ∀ {F H : Hp} {x : V} {d z : D} {Q : VK}, Same F H → Rp K ad F x d → g d = some z → (∀ v, Rp K ad F v z → Q v H) → r x H Q
variable (K ad) in
/-- .. that makes a new object -/
def O2c (r : R2) (g : D → D → Option CC) : Prop := ∀ {F H : Hp} {x y : V} {d e : D} {z : CC} {Q : VK}, Same F H → Rp K ad F x d → Rp K ad F y e → g d e = some z → (∀ p o, H p = none → (F p = none → CelR K ad F (upd H p o) p z) → Q (.ref p) (upd H p o)) → r x y H Q
theorem map_some {α β : Type} {o : Option α} {f : α → β} {b : β} (h : o.map f = some b) : ∃ a, o = some a ∧ f a = b := by
  cases o with
  | none => cases h
  | some a => exact ⟨a, rfl, Option.some.inj h⟩
theorem w_2 {r : R2} {g : D → D → Option D} (O : O2 K ct.ad r g) {Q : VK} (h : TP K ct W (ev2 g fa fb) σ H Q) : tOp r (TP K ct W fa) (TP K ct W fb) σ H Q := by
  obtain ⟨fr, F, ρ, S, h⟩ := h
  refine h.dat S fun F1 H1 ρ1 v d s1 S1 r1 h => ?_
  refine h.dat S1 fun F2 H2 ρ2 u e s2 S2 r2 h => ?_
  obtain ⟨z, e1, q⟩ := h.opt
  obtain ⟨y, e2, rfl⟩ := map_some e1
  exact O S2.fh (r1.mono s2) r2 e2 fun v rv => q v F2 H2 (Same.refl _) S2 rv
theorem w_2c {r : R2} {g : D → D → Option CC} (O : O2c K ct.ad r g) {Q : VK} (h : TP K ct W (ev2c g fa fb) σ H Q) : tOp r (TP K ct W fa) (TP K ct W fb) σ H Q := by
  obtain ⟨fr, F, ρ, S, h⟩ := h
  refine h.dat S fun F1 H1 ρ1 v d s1 S1 r1 h => ?_
  refine h.dat S1 fun F2 H2 ρ2 u e s2 S2 r2 h => ?_
  obtain ⟨z, e1, q⟩ := h.opt
  obtain ⟨y, e2, rfl⟩ := map_some e1
  exact O S2.fh (r1.mono s2) r2 e2 fun p o hp rc => q _ F2 _ (Same.refl _) (S2.newC hp) ⟨p, rfl, S2.fresh hp (rc (S2.nn hp))⟩
theorem w_1 {r : V → Hp → VK → Prop} {g : D → Option D} (O : O1 K ct.ad r g) {Q : VK} (h : TP K ct W (ev1 g fa) σ H Q) : tUn r (TP K ct W fa) σ H Q := by
  obtain ⟨fr, F, ρ, S, h⟩ := h
  refine h.dat S fun F1 H1 ρ1 v d s1 S1 r1 h => ?_
  obtain ⟨z, e1, q⟩ := h.opt
  obtain ⟨y, e2, rfl⟩ := map_some e1
  exact O S1.fh r1 e2 fun v rv => q v F1 H1 (Same.refl _) S1 rv
theorem pp_2 {op : Operator} {r : R2} {g : D → D → Option D} (ho : OpR X (binaryOp op) r) (O : O2 K ct.ad r g) (ha : PE X a (TP K ct W fa)) (hb : PE X b (TP K ct W fb)) : PE X (.BinOp a op b pos) (TP K ct W (ev2 g fa fb)) := (pe_op ho ha hb).imp fun _ _ _ => w_2 O
theorem pp_2c {op : Operator} {r : R2} {g : D → D → Option CC} (ho : OpR X (binaryOp op) r) (O : O2c K ct.ad r g) (ha : PE X a (TP K ct W fa)) (hb : PE X b (TP K ct W fb)) : PE X (.BinOp a op b pos) (TP K ct W (ev2c g fa fb)) := (pe_op ho ha hb).imp fun _ _ _ => w_2c O
theorem pp_1 {op : UnaryOp} {r : V → Hp → VK → Prop} {g : D → Option D} (ho : UnR X (unaryOp op) r) (O : O1 K ct.ad r g) (ha : PE X a (TP K ct W fa)) : PE X (.UnaryOp op a pos) (TP K ct W (ev1 g fa)) := (pe_un ho ha).imp fun _ _ _ => w_1 O
theorem pp_cmp {op : CmpOp} {r : R2} {g : D → D → Option D} (ho : OpR X (compareOp op) r) (O : O2 K ct.ad r g) (ha : PE X a (TP K ct W fa)) (hb : PE X b (TP K ct W fb)) (hm : behindInMarks op b = false) : PE X (.Compare a [op] [b] pos) (TP K ct W (ev2 g fa fb)) := (pe_cmpR ho ha hb hm).imp fun _ _ _ => w_2 O
/-- tests -/
def tst (a : Ev) : M Bool := bnd (dat a) fun x => match x with | .bl b => pur b | _ => fai
theorem w_t {Q : Bool → Hp → Prop} (h : TB K ct W (tst fa) σ H Q) : tTest (TP K ct W fa) σ H Q := by
  obtain ⟨fr, F, ρ, S, h⟩ := h
  refine h.dat S fun F1 H1 ρ1 v d s1 S1 r1 h => ?_
  cases d with
  | bl b =>
    cases r1
    exact ⟨b, rfl, h.ok b F1 H1 (Same.refl _) S1 rfl⟩
  | _ => obtain ⟨_, _, e, _⟩ := h; cases e
theorem pp_tcmp {op : CmpOp} {r : R2} {g : D → D → Option D} (ho : OpR X (compareOp op) r) (O : O2 K ct.ad r g) (ha : PE X a (TP K ct W fa)) (hb : PE X b (TP K ct W fb)) (hm : behindInMarks op b = false) : PT X (.Compare a [op] [b] pos) (TB K ct W (tst (ev2 g fa fb))) := by
  refine (pt_cmpR ho ha hb hm).imp fun σ H Q h => ?_
  have z := w_t h
  obtain ⟨fr, F, ρ, S, h⟩ := z
  exact w_2 O ⟨fr, F, ρ, S, h⟩
theorem pp_tval {e : Expr} (h : PE X e (TP K ct W fa)) (he : ∀ whole, isTrue e X.env whole = (do let v ← whole; standAt e.pos; holding [v] (truthy v)) := by intro _; rfl) : PT X e (TB K ct W (tst fa)) := (pt_val h he).imp fun _ _ _ => w_t
end
end PL
end
section
namespace PL
open PySem PySem.Spec PyProof.Rows L2
variable {K : PySem.W.Frag} {ad : Cl → Addr} {ct : CT}
variable {fr : Fr} {F F' H H' : Hp} {σ : L2.St} {ρ : List Sl} {W : WX}
/-! ### ints -/
def dAdd : D → D → Option D | .int i, .int j => some (.int (i + j)) | _, _ => none
def dSub : D → D → Option D | .int i, .int j => some (.int (i - j)) | _, _ => none
/-- a product: one factor below 2 ^ 64, or both not beyond a million bits -/
def mulOk (i j : Int) : Prop := (-(2 ^ 64) < i ∧ i < 2 ^ 64) ∨ (-(2 ^ 64) < j ∧ j < 2 ^ 64) ∨ i.natAbs.log2 + j.natAbs.log2 < 1000000
instance (i j : Int) : Decidable (mulOk i j) := by unfold mulOk; infer_instance
def dMul : D → D → Option D | .int i, .int j => if mulOk i j then some (.int (i * j)) else none | _, _ => none
def divOk (j : Int) : Prop := 0 < j ∧ (j < 1073741824 ∨ j.natAbs.log2 < 9000)
instance (j : Int) : Decidable (divOk j) := by unfold divOk; infer_instance
def dDiv : D → D → Option D | .int i, .int j => if divOk j then some (.int (i / j)) else none | _, _ => none
def dDivN : D → D → Option D | .int i, .int j => if j ≠ 0 ∧ j.natAbs.log2 < 9000 then some (.int (i.fdiv j)) else none | _, _ => none
def dMod : D → D → Option D | .int i, .int j => if 0 < j then some (.int (i % j)) else none | _, _ => none
def dPow : D → D → Option D | .int i, .int j => if 0 ≤ j ∧ j ≤ 1000000 ∧ i.natAbs < 2 ^ 64 then some (.int (i ^ j.toNat)) else none | _, _ => none
def dNeg : D → Option D | .int i => some (.int (-i)) | _ => none
def dLt : D → D → Option D | .int i, .int j => some (.bl (decide (i < j))) | _, _ => none
def dLe : D → D → Option D | .int i, .int j => some (.bl (decide (i ≤ j))) | _, _ => none
def dGt : D → D → Option D | .int i, .int j => some (.bl (decide (j < i))) | _, _ => none
def dGe : D → D → Option D | .int i, .int j => some (.bl (decide (j ≤ i))) | _, _ => none
theorem o_0 {g : Int → Int → V} {gd : Int → Int → D} {G : D → D → Option D} (hg : ∀ d e z, G d e = some z → ∃ i j, d = .int i ∧ e = .int j ∧ z = gd i j) (hv : ∀ i j, (gd i j).toV = some (g i j)) : O2 K ct.ad (rI0 g) G := by
  intro F H x y d e z Q s r1 r2 e1 q
  obtain ⟨i, j, rfl, rfl, rfl⟩ := hg d e z e1
  cases r1
  cases r2
  exact ⟨i, j, rfl, rfl, q _ (D.toV_rp (hv i j))⟩
theorem o_add : O2 K ct.ad (rI0 fun i j => .int (i + j)) dAdd := o_0 (gd := fun i j => .int (i + j)) (fun d e z h => by
  cases d <;> cases e <;> cases h
  exact ⟨_, _, rfl, rfl, rfl⟩) (fun _ _ => rfl)
theorem o_sub : O2 K ct.ad (rI0 fun i j => .int (i - j)) dSub := o_0 (gd := fun i j => .int (i - j)) (fun d e z h => by
  cases d <;> cases e <;> cases h
  exact ⟨_, _, rfl, rfl, rfl⟩) (fun _ _ => rfl)
theorem o_lt : O2 K ct.ad (rI0 fun i j => .bl (decide (i < j))) dLt := o_0 (gd := fun i j => .bl (decide (i < j))) (fun d e z h => by
  cases d <;> cases e <;> cases h
  exact ⟨_, _, rfl, rfl, rfl⟩) (fun _ _ => rfl)
theorem o_le : O2 K ct.ad (rI0 fun i j => .bl (decide (i ≤ j))) dLe := o_0 (gd := fun i j => .bl (decide (i ≤ j))) (fun d e z h => by
  cases d <;> cases e <;> cases h
  exact ⟨_, _, rfl, rfl, rfl⟩) (fun _ _ => rfl)
theorem o_gt : O2 K ct.ad (rI0 fun i j => .bl (decide (j < i))) dGt := o_0 (gd := fun i j => .bl (decide (j < i))) (fun d e z h => by
  cases d <;> cases e <;> cases h
  exact ⟨_, _, rfl, rfl, rfl⟩) (fun _ _ => rfl)
theorem o_ge : O2 K ct.ad (rI0 fun i j => .bl (decide (j ≤ i))) dGe := o_0 (gd := fun i j => .bl (decide (j ≤ i))) (fun d e z h => by
  cases d <;> cases e <;> cases h
  exact ⟨_, _, rfl, rfl, rfl⟩) (fun _ _ => rfl)
/-- a product, either way -/
def rMulB : R2 := fun x y H Q => ∃ i j, x = .int i ∧ y = .int j ∧ mulOk i j ∧ Q (.int (i * j)) H
theorem op_mulB {X : Cx} : OpR X (binaryOp .Mult) rMulB := by
  intro pins s σ H x y v u Q I rx ry ⟨i, j, ex, ey, hc, q⟩
  rcases hc with hc | hc | hc
  · exact op_mul pins s σ H x y v u Q I rx ry ⟨i, j, ex, ey, .inl hc, q⟩
  · exact op_mul pins s σ H x y v u Q I rx ry ⟨i, j, ex, ey, .inr hc, q⟩
  · exact op_mulW pins s σ H x y v u Q I rx ry ⟨i, j, ex, ey, hc, q⟩
def rDivB : R2 := fun x y H Q => ∃ i j, x = .int i ∧ y = .int j ∧ divOk j ∧ Q (.int (i / j)) H
theorem op_divB {X : Cx} : OpR X (binaryOp .FloorDiv) rDivB := by
  intro pins s σ H x y v u Q I rx ry ⟨i, j, ex, ey, ⟨h0, hc⟩, q⟩
  rcases hc with hc | hc
  · exact op_fdiv pins s σ H x y v u Q I rx ry ⟨i, j, ex, ey, ⟨h0, hc⟩, q⟩
  · exact op_fdivW pins s σ H x y v u Q I rx ry ⟨i, j, ex, ey, ⟨h0, hc⟩, q⟩
def rDivN : R2 := fun x y H Q => ∃ i j, x = .int i ∧ y = .int j ∧ (j ≠ 0 ∧ j.natAbs.log2 < 9000) ∧ Q (.int (i.fdiv j)) H
theorem o_mul : O2 K ct.ad rMulB dMul := by
  intro F H x y d e z Q s r1 r2 e1 q
  cases d <;> cases e <;> try cases e1
  rename_i i j
  cases r1; cases r2
  have e1 : (if mulOk i j then some (D.int (i * j)) else none) = some z := e1
  split at e1
  · rename_i h
    cases e1
    exact ⟨i, j, rfl, rfl, h, q _ (.int _)⟩
  · cases e1
theorem o_div : O2 K ct.ad rDivB dDiv := by
  intro F H x y d e z Q s r1 r2 e1 q
  cases d <;> cases e <;> try cases e1
  rename_i i j
  cases r1; cases r2
  have e1 : (if divOk j then some (D.int (i / j)) else none) = some z := e1
  split at e1
  · rename_i h
    cases e1
    exact ⟨i, j, rfl, rfl, h, q _ (.int _)⟩
  · cases e1
theorem o_mod : O2 K ct.ad (rI (fun _ j => 0 < j) fun i j => .int (i % j)) dMod := by
  intro F H x y d e z Q s r1 r2 e1 q
  cases d <;> cases e <;> try cases e1
  rename_i i j
  cases r1; cases r2
  have e1 : (if 0 < j then some (D.int (i % j)) else none) = some z := e1
  split at e1
  · rename_i h
    cases e1
    exact ⟨i, j, rfl, rfl, h, q _ (.int _)⟩
  · cases e1
theorem o_pow : O2 K ct.ad (rI CPow fun i j => .int (i ^ j.toNat)) dPow := by
  intro F H x y d e z Q s r1 r2 e1 q
  cases d <;> cases e <;> try cases e1
  rename_i i j
  cases r1; cases r2
  have e1 : (if 0 ≤ j ∧ j ≤ 1000000 ∧ i.natAbs < 2 ^ 64 then some (D.int (i ^ j.toNat)) else none) = some z := e1
  split at e1
  · rename_i h
    cases e1
    exact ⟨i, j, rfl, rfl, h, q _ (.int _)⟩
  · cases e1
theorem o_neg : O1 K ct.ad (rU fun i => .int (-i)) dNeg := by
  intro F H x d z Q s r e q
  cases d <;> cases e
  cases r
  exact ⟨_, rfl, q _ (.int _)⟩
/-! ### texts, lists, tuples -/
def dAddS : D → D → Option D | .str s, .str t => if s.length + t.length ≤ 16777216 then some (.str (s ++ t)) else none | _, _ => none
def rAddS : R2 := fun x y H Q => ∃ i j, x = .str i ∧ y = .str j ∧ i.length + j.length ≤ sizeLine ∧ Q (.str (i ++ j)) H
theorem op_addSS {X : Cx} : OpR X (binaryOp .Add) rAddS := op_add_str
theorem o_addS : O2 K ct.ad rAddS dAddS := by
  intro F H x y d e z Q s r1 r2 e1 q
  cases d <;> cases e <;> try cases e1
  rename_i i j
  cases r1; cases r2
  have e1 : (if i.length + j.length ≤ 16777216 then some (D.str (i ++ j)) else none) = some z := e1
  split at e1
  · rename_i h
    cases e1
    exact ⟨i, j, rfl, rfl, h, q _ (.str _)⟩
  · cases e1
def cCat : D → D → Option CC | .lst xs, .lst ys => if xs.length + ys.length ≤ 16777216 then some (.lst (xs ++ ys)) else none | _, _ => none
theorem o_cat : O2c K ct.ad rCat cCat := by
  intro F H x y d e z Q s r1 r2 e1 q
  cases d <;> cases e <;> try cases e1
  rename_i xs ys
  cases r1 with
  | lst h1 k1 =>
    cases r2 with
    | lst h2 k2 =>
      have e1 : (if xs.length + ys.length ≤ 16777216 then some (CC.lst (xs ++ ys)) else none) = some z := e1
      split at e1
      · rename_i h
        cases e1
        exact ⟨_, _, _, _, rfl, rfl, s _ _ h1, s _ _ h2, by rw [k1.len, k2.len]; exact h, fun p hp => q p _ hp fun _ => ⟨_, upd_same, k1.app k2⟩⟩
      · cases e1
def rep {α : Type} (n : Nat) (xs : List α) : List α := (List.replicate n xs).flatten
def cRep : D → D → Option CC | .lst xs, .int k => if -(2 ^ 63) ≤ k ∧ k < 2 ^ 63 ∧ xs.length * k.toNat ≤ 16777216 then some (.lst (rep k.toNat xs)) else none | _, _ => none
def dCatT : D → D → Option D | .tup xs, .tup ys => if xs.length + ys.length ≤ 16777216 then some (.tup (xs ++ ys)) else none | _, _ => none
/-! ### comparisons of data -/
mutual
def D.py : D → Option PyData
  | .non => some .none | .bl b => some (.bool b) | .int i => some (.int i) | .str s => some (.str s)
  | .tup xs => (D.pys xs).map PyData.tuple | .lst xs => (D.pys xs).map PyData.list | .sq xs => (D.pys xs).map PyData.list
  | _ => none
def D.pys : List D → Option (List PyData)
  | [] => some []
  | x :: xs => match D.py x, D.pys xs with | some a, some b => some (a :: b) | _, _ => none
end
mutual
theorem Rp.dp {F H : Hp} (s : Same F H) : ∀ {d : D} {v : V} {e : PyData}, Rp K ct.ad F v d → d.py = some e → Dp K H v e
  | .non, _, _, h, q => by cases h; cases q; exact .non
  | .bl _, _, _, h, q => by cases h; cases q; exact .bl _
  | .int _, _, _, h, q => by cases h; cases q; exact .int _
  | .str _, _, _, h, q => by cases h; cases q; exact .str _
  | .tup xs, _, _, h, q => by
    cases h with
    | tup h r =>
      rw [D.py] at q
      obtain ⟨a, e1, rfl⟩ := map_some q
      exact .tup (sameT s h) (Rps.dp s r e1)
  | .lst xs, _, _, h, q => by
    cases h with
    | lst h r =>
      rw [D.py] at q
      obtain ⟨a, e1, rfl⟩ := map_some q
      exact .lst (SqL.of (s _ _ h)) (Rps.dp s r e1)
  | .sq xs, _, _, h, q => by
    cases h with
    | sq h r =>
      rw [D.py] at q
      obtain ⟨a, e1, rfl⟩ := map_some q
      exact .lst (s.seq h) (Rps.dp s r e1)
  | .obj _ _, _, _, _, q => by simp [D.py] at q
  | .cl _, _, _, _, q => by simp [D.py] at q
  | .dK _ _, _, _, _, q => by simp [D.py] at q
  | .dT _ _, _, _, _, q => by simp [D.py] at q
theorem Rps.dp {F H : Hp} (s : Same F H) : ∀ {ds : List D} {vs : List V} {es : List PyData}, Rps K ct.ad F vs ds → D.pys ds = some es → DpAll K H vs es
  | [], _, _, h, q => by cases h; rw [D.pys] at q; cases q; exact .nil
  | d :: ds, _, _, h, q => by
    cases h with
    | cons h t =>
      rw [D.pys] at q
      split at q
      · rename_i a b e1 e2
        cases q
        exact .cons (Rp.dp s h e1) (Rps.dp s t e2)
      · cases q
end
/-- == as Python has it, of data of one kind -/
def D.eq? : D → D → Option Bool
  | .non, .non => some true | .non, .int _ => some false | .int _, .non => some false | .non, .bl _ => some false | .bl _, .non => some false | .non, .str _ => some false | .str _, .non => some false
  | .int i, .int j => some (decide (i = j)) | .bl b, .bl c => some (b == c) | .str s, .str t => some (decide (s = t))
  | .int _, .str _ => some false | .str _, .int _ => some false | .bl _, .str _ => some false | .str _, .bl _ => some false
  | d, e => match d.py, e.py with
    | some x, some y => if SeqAt.shaped x && SeqAt.shaped y then some (PyData.eqv x y) else none
    | _, _ => none
def dEq (d e : D) : Option D := (d.eq? e).map .bl
def dNe (d e : D) : Option D := (d.eq? e).map fun b => .bl (!b)
def rEqB (K : PySem.W.Frag) : R2 := fun x y H Q => rEq x y H Q ∨ rEqD K x y H Q
def rNeB (K : PySem.W.Frag) : R2 := fun x y H Q => rNe x y H Q ∨ rNeD K x y H Q
theorem op_eqB {X : Cx} (hu : X.A.units + 64 < cLine) : OpR X (compareOp .Eq) (rEqB X.K) := fun pins s σ H x y v u Q I rx ry h => h.elim (op_eq pins s σ H x y v u Q I rx ry) (op_eqD hu pins s σ H x y v u Q I rx ry)
theorem op_neB {X : Cx} (hu : X.A.units + 64 < cLine) : OpR X (compareOp .NotEq) (rNeB X.K) := fun pins s σ H x y v u Q I rx ry h => h.elim (op_ne pins s σ H x y v u Q I rx ry) (op_neD hu pins s σ H x y v u Q I rx ry)
/-- how two equal or unequal data lie -/
theorem eq_cases {F H : Hp} {x y : V} {d e : D} {b : Bool} (s : Same F H) (r1 : Rp K ct.ad F x d) (r2 : Rp K ct.ad F y e) (h : d.eq? e = some b) :
    (scal x y = true ∧ decide (x = y) = b) ∨ ∃ p q, Dp K H x p ∧ Dp K H y q ∧ SeqAt.shaped p = true ∧ SeqAt.shaped q = true ∧ PyData.eqv p q = b := by
  have deep : ∀ (h : (match d.py, e.py with | some x, some y => if SeqAt.shaped x && SeqAt.shaped y then some (PyData.eqv x y) else none | _, _ => none) = some b),
      ∃ p q, Dp K H x p ∧ Dp K H y q ∧ SeqAt.shaped p = true ∧ SeqAt.shaped q = true ∧ PyData.eqv p q = b := fun h => by
    split at h
    · rename_i p q e1 e2
      split at h
      · rename_i c
        rw [Bool.and_eq_true] at c
        cases h
        exact ⟨p, q, r1.dp s e1, r2.dp s e2, c.1, c.2, rfl⟩
      · cases h
    · cases h
  cases d <;> cases e <;> first
    | exact .inr (deep h)
    | (cases r1; cases r2; cases h; exact .inl ⟨rfl, by first | rfl | simp | (rename_i p q; cases p <;> cases q <;> rfl)⟩)
theorem o_eq : O2 K ct.ad (rEqB K) dEq := by
  intro F H x y d e z Q s r1 r2 e1 q
  obtain ⟨b, h, rfl⟩ := map_some e1
  rcases eq_cases s r1 r2 h with ⟨h1, h2⟩ | ⟨p, p', h1, h2, h3, h4, h5⟩
  · exact .inl ⟨h1, by rw [h2]; exact q _ (.bl b)⟩
  · exact .inr ⟨p, p', h1, h2, h3, h4, by rw [h5]; exact q _ (.bl b)⟩
theorem o_ne : O2 K ct.ad (rNeB K) dNe := by
  intro F H x y d e z Q s r1 r2 e1 q
  obtain ⟨b, h, rfl⟩ := map_some e1
  rcases eq_cases s r1 r2 h with ⟨h1, h2⟩ | ⟨p, p', h1, h2, h3, h4, h5⟩
  · exact .inl ⟨h1, by rw [h2]; exact q _ (.bl _)⟩
  · exact .inr ⟨p, p', h1, h2, h3, h4, by rw [h5]; exact q _ (.bl _)⟩
/-- is None, is not None -/
def D.isN : D → Bool | .non => true | _ => false
def dIs : D → D → Option D | d, .non => some (.bl d.isN) | _, _ => none
def dIsNot : D → D → Option D | d, .non => some (.bl (!d.isN)) | _, _ => none
def rIsN : R2 := fun y z H Q => z = .non ∧ Q (.bl (decide (y = .non))) H
def rNotN : R2 := fun y z H Q => z = .non ∧ Q (.bl (!decide (y = .non))) H
theorem op_isNN {X : Cx} : OpR X (compareOp .Is) rIsN := op_isN
theorem Rp.isN {F : Hp} {v : V} {d : D} (r : Rp K ct.ad F v d) : decide (v = .non) = d.isN := by cases r <;> rfl
theorem o_is : O2 K ct.ad rIsN dIs := by
  intro F H x y d e z Q s r1 r2 e1 q
  cases e <;> cases e1
  cases r2
  exact ⟨rfl, by rw [r1.isN]; exact q _ (.bl _)⟩
/-! ### and, or, not, conditional -/
section
variable {X : Cx} {a b c d : Expr} {fa fb fc fd : Ev} {ta tb : M Bool} {pos : Pos}
def tNo (t : M Bool) : M Bool := bnd t fun b => pur (!b)
def tAn (t u : M Bool) : M Bool := bnd t fun b => if b then u else pur false
def tOo (t u : M Bool) : M Bool := bnd t fun b => if b then pur true else u
theorem w_no {Q : Bool → Hp → Prop} (h : TB K ct W (tNo ta) σ H Q) : tNot (TB K ct W ta) σ H Q := by
  obtain ⟨fr, F, ρ, S, h⟩ := h
  exact h.bnd S fun F1 H1 ρ1 v d s1 S1 r1 h => h.ok _ F1 H1 (Same.refl _) S1 (by cases r1; rfl)
theorem w_an {Q : Bool → Hp → Prop} (h : TB K ct W (tAn ta tb) σ H Q) : tAnd (TB K ct W ta) (TB K ct W tb) σ H Q := by
  obtain ⟨fr, F, ρ, S, h⟩ := h
  refine h.bnd S fun F1 H1 ρ1 v d s1 S1 r1 h => ?_
  cases r1
  cases v with
  | true => exact h.to S1
  | false => exact h.ok _ F1 H1 (Same.refl _) S1 rfl
theorem w_oo {Q : Bool → Hp → Prop} (h : TB K ct W (tOo ta tb) σ H Q) : tOr (TB K ct W ta) (TB K ct W tb) σ H Q := by
  obtain ⟨fr, F, ρ, S, h⟩ := h
  refine h.bnd S fun F1 H1 ρ1 v d s1 S1 r1 h => ?_
  cases r1
  cases v with
  | false => exact h.to S1
  | true => exact h.ok _ F1 H1 (Same.refl _) S1 rfl
theorem pp_tno (h : PT X a (TB K ct W ta)) : PT X (.UnaryOp .Not a pos) (TB K ct W (tNo ta)) := (pt_not h).imp fun _ _ _ => w_no
theorem pp_wan {rest : List Expr} (ha : PT X a (TB K ct W ta)) (hb : PW X (.BoolOp .And (b :: rest) pos) (TB K ct W tb)) : PW X (.BoolOp .And (a :: b :: rest) pos) (TB K ct W (tAn ta tb)) := (pw_and ha hb).imp fun _ _ _ => w_an
theorem pp_woo {rest : List Expr} (ha : PT X a (TB K ct W ta)) (hb : PW X (.BoolOp .Or (b :: rest) pos) (TB K ct W tb)) : PW X (.BoolOp .Or (a :: b :: rest) pos) (TB K ct W (tOo ta tb)) := (pw_or ha hb).imp fun _ _ _ => w_oo
/-- .. as values -/
def vNo (m : Ev) : Ev := bnd (tst m) fun b => vD (.bl (!b))
def vAn (m n : Ev) : Ev := bnd (tst m) fun b => if b then bnd (dat n) vD else vD (.bl false)
def vOo (m n : Ev) : Ev := bnd (tst m) fun b => if b then vD (.bl true) else bnd (dat n) vD
def vIf (t : M Bool) (m n : Ev) : Ev := bnd t fun b => if b then m else n
theorem Tat.tstT {δ γ : Type} {R' : Rel3 δ γ} {m : Ev} {k : Bool → M γ} {Q : δ → Hp → Prop} {Q1 : V → Hp → Prop} (h : Tat K ct R' W fr F ρ (PL.bnd (PL.tst m) k) σ Q)
    (hq : ∀ F1 H1 ρ1 b, Same F F1 → Rel K ct fr F1 H1 σ ρ1 → Tat K ct R' W fr F1 ρ1 (k b) σ Q → Q1 (.bl b) H1) : Tat K ct (RV K ct.ad) W fr F ρ m σ Q1 := by
  have e : PL.bnd (PL.tst m) k = PL.bnd (PL.dat m) fun x => match x with | .bl b => k b | _ => fai := by
    funext ρ
    unfold PL.tst PL.bnd
    cases em : PL.dat m ρ with
    | none => rfl
    | some x =>
      obtain ⟨r1, ρ1⟩ := x
      cases r1 with
      | ok a => cases a <;> rfl
      | er c pl => rfl
  rw [e] at h
  refine h.datT fun F1 H1 ρ1 v d s1 S1 r1 h => ?_
  cases d with
  | bl b =>
    cases r1
    exact hq F1 H1 ρ1 b s1 S1 h
  | _ => obtain ⟨_, _, e, _⟩ := h; cases e
theorem Tat.tst {δ γ : Type} {R' : Rel3 δ γ} {m : Ev} {k : Bool → M γ} {Q : δ → Hp → Prop} {Q1 : V → Hp → Prop} (h : Tat K ct R' W fr F ρ (PL.bnd (PL.tst m) k) σ Q) (S : Rel K ct fr F H σ ρ)
    (hq : ∀ F1 H1 ρ1 b, Same F F1 → Rel K ct fr F1 H1 σ ρ1 → Tat K ct R' W fr F1 ρ1 (k b) σ Q → Q1 (.bl b) H1) : T K ct (RV K ct.ad) W m σ H Q1 := ⟨fr, F, ρ, S, h.tstT hq⟩
theorem w_vno {Q : VK} (h : TP K ct W (vNo fa) σ H Q) : tNotV (TP K ct W fa) σ H Q := by
  obtain ⟨fr, F, ρ, S, h⟩ := h
  exact h.tst S fun F1 H1 ρ1 b s1 S1 h => ⟨b, rfl, h.ok _ F1 H1 (Same.refl _) S1 (Rp.bl _)⟩
theorem w_van {Q : VK} (h : TP K ct W (vAn fa fb) σ H Q) : tAndV (TP K ct W fa) (TP K ct W fb) σ H Q := by
  obtain ⟨fr, F, ρ, S, h⟩ := h
  refine h.tst S fun F1 H1 ρ1 b s1 S1 h => ⟨b, rfl, ?_⟩
  cases b with
  | true =>
    rw [if_pos rfl]
    have h : Tat K ct (RV K ct.ad) W fr F1 ρ1 (bnd (dat fb) vD) σ Q := h
    exact h.dat S1 fun F2 H2 ρ2 v d s2 S2 r2 h => h.ok _ F2 H2 (Same.refl _) S2 r2
  | false =>
    (rw [if_neg Bool.false_ne_true])
    exact Tat.ok (a := Rv.d (.bl false)) h _ F1 H1 (Same.refl _) S1 (Rp.bl _)
theorem w_vif {Q : VK} (h : TP K ct W (vIf ta fa fb) σ H Q) : tIf (TB K ct W ta) (TP K ct W fa) (TP K ct W fb) σ H Q := by
  obtain ⟨fr, F, ρ, S, h⟩ := h
  refine h.bnd S fun F1 H1 ρ1 v b s1 S1 r1 h => ?_
  cases r1
  cases v with
  | true => rw [if_pos rfl]; exact h.to S1
  | false => rw [if_neg Bool.false_ne_true]; exact h.to S1
theorem pp_vno (h : PE X a (TP K ct W fa)) : PE X (.UnaryOp .Not a pos) (TP K ct W (vNo fa)) := (pe_not h).imp fun _ _ _ => w_vno
theorem pp_van {rest : List Expr} (ha : PE X a (TP K ct W fa)) (hb : PE X (.BoolOp .And (b :: rest) pos) (TP K ct W fb)) : PE X (.BoolOp .And (a :: b :: rest) pos) (TP K ct W (vAn fa fb)) := (pe_and ha hb).imp fun _ _ _ => w_van
theorem pp_vif (hc : PT X c (TB K ct W ta)) (ha : PE X a (TP K ct W fa)) (hb : PE X b (TP K ct W fb)) : PE X (.IfExp c a b pos) (TP K ct W (vIf ta fa fb)) := (pe_ifExp hc ha hb).imp fun _ _ _ => w_vif
/-! a op b op' c -/
def ch2 (g g' : D → D → Option D) (a b c : Ev) : Ev := bnd (dat a) fun x => bnd (dat b) fun y => bnd (opt (g x y)) fun z => match z with
  | .bl true => bnd (dat c) fun u => opt ((g' y u).map Rv.d)
  | .bl false => vD (.bl false)
  | _ => fai
theorem Tat.optL {δ γ α : Type} {R' : Rel3 δ γ} {o : Option α} {k : α → M γ} {Q : δ → Hp → Prop} (h : Tat K ct R' W fr F ρ (PL.bnd (PL.opt o) k) σ Q) : ∃ z, o = some z ∧ Tat K ct R' W fr F ρ (k z) σ Q := by
  cases o with
  | none => obtain ⟨_, _, e, _⟩ := h; cases e
  | some z => exact ⟨z, rfl, h⟩
theorem Tat.optb {δ γ : Type} {R' : Rel3 δ γ} {o : Option D} {k : D → M γ} {Q : δ → Hp → Prop} (h : Tat K ct R' W fr F ρ (PL.bnd (PL.opt o) k) σ Q) : ∃ z, o = some z ∧ Tat K ct R' W fr F ρ (k z) σ Q := by
  cases o with
  | none => obtain ⟨_, _, e, _⟩ := h; cases e
  | some z => exact ⟨z, rfl, h⟩
theorem w_ch2 {r r' : R2} {g g' : D → D → Option D} (O : O2 K ct.ad r g) (O' : O2 K ct.ad r' g') {Q : VK} (h : TP K ct W (ch2 g g' fa fb fc) σ H Q) : tChain r r' (TP K ct W fa) (TP K ct W fb) (TP K ct W fc) σ H Q := by
  obtain ⟨fr, F, ρ, S, h⟩ := h
  refine h.dat S fun F1 H1 ρ1 v d s1 S1 r1 h => ?_
  refine h.dat S1 fun F2 H2 ρ2 u e s2 S2 r2 h => ?_
  obtain ⟨z, e1, h⟩ := h.optb
  refine O S2.fh (r1.mono s2) r2 e1 fun w rw_ => ?_
  cases z with
  | bl k =>
    cases rw_
    refine ⟨k, rfl, ?_⟩
    cases k with
    | false =>
      (rw [if_neg Bool.false_ne_true])
      exact Tat.ok (a := Rv.d (.bl false)) h _ F2 H2 (Same.refl _) S2 (Rp.bl _)
    | true =>
      rw [if_pos rfl]
      refine Tat.dat (k := fun w => opt ((g' e w).map Rv.d)) h S2 fun F3 H3 ρ3 v3 d3 s3 S3 r3 h => ?_
      obtain ⟨y, e3, q⟩ := h.opt
      obtain ⟨y', e4, rfl⟩ := map_some e3
      exact O' S3.fh (r2.mono s3) r3 e4 fun w' rw' => q w' F3 H3 (Same.refl _) S3 rw'
  | _ => obtain ⟨_, _, e, _⟩ := h; cases e
theorem pp_tch2 {op op' : CmpOp} {r r' : R2} {g g' : D → D → Option D} (ho : OpR X (compareOp op) r) (ho' : OpR X (compareOp op') r') (O : O2 K ct.ad r g) (O' : O2 K ct.ad r' g') (ha : PE X a (TP K ct W fa)) (hb : PE X b (TP K ct W fb)) (hc : PE X c (TP K ct W fc))
    (hm : lastMarks [op, op'] [b, c] = false := by with_unfolding_all rfl) : PT X (.Compare a [op, op'] [b, c] pos) (TB K ct W (tst (ch2 g g' fa fb fc))) := by
  refine (pt_chain ho ho' ha hb hc hm).imp fun σ H Q h => ?_
  exact w_ch2 O O' (w_t h)
end
end PL
end
section
namespace PL
open PySem PySem.Spec PyProof.Rows L2
variable {K : PySem.W.Frag} {ad : Cl → Addr} {ct : CT}
variable {fr : Fr} {F F' H H' : Hp} {σ : L2.St} {ρ : List Sl} {W : WX}
/-- a tuple's sum -/
def rCatD (K : PySem.W.Frag) : R2 := rCatA K
/-! ### fields -/
theorem look_zip {f : Str} : ∀ {ks : List Str} {vs : List V} {i : Nat}, ks.length = vs.length → ks.findIdx? (fun k => f == k) = some i → (ks.zip vs).lookup f = vs[i]?
  | [], _, _, _, h =>
    by simp at h
  | k :: ks, [], _, l, _ => by simp at l
  | k :: ks, v :: vs, i, l, h => by
    rw [List.zip_cons_cons, List.lookup_cons]
    rw [List.findIdx?_cons] at h
    cases e : f == k with
    | true =>
      rw [e] at h
      cases h
      rfl
    | false =>
      rw [e] at h
      have h : Option.map (fun i => i + 1) (ks.findIdx? (fun k => f == k)) = some i := h
      obtain ⟨j, h1, rfl⟩ := map_some h
      rw [look_zip (by simpa using l) h1]
      rfl
theorem look_no {f : Str} : ∀ {ks : List Str} {vs : List V}, ks.findIdx? (fun k => f == k) = none → (ks.zip vs).lookup f = none
  | [], _, _ => by simp
  | k :: ks, [], _ => by simp
  | k :: ks, v :: vs, h => by
    rw [List.zip_cons_cons, List.lookup_cons]
    rw [List.findIdx?_cons] at h
    cases e : f == k with
    | true => rw [e] at h; cases h
    | false =>
      rw [e] at h
      have h : Option.map (fun i => i + 1) (ks.findIdx? (fun k => f == k)) = none := h
      cases e2 : ks.findIdx? (fun k => f == k) with
      | none => exact look_no e2
      | some j => rw [e2] at h; cases h
def dFld (c : Cl) (i : Nat) : D → Option D | .obj c' xs => if c' = c then xs[i]? else none | _ => none
theorem pp_fld {X : Cx} {e : Expr} {fe : Ev} {f : Str} {pos : Pos} (c : Cl) (i : Nat) (eK : X.K = K) (hc : Cls K (ct.ad c)) (hn : NoAttr K (ct.ad c) f) (he : PE X e (TP K ct W fe)) (hi : c.fn.findIdx? (fun k => f == k) = some i := by decide)
    (hb : attributeBase e f X.env (eval e X.env) = eval e X.env := by rfl) : PE X (.Attribute e f pos) (TP K ct W (ev1 (dFld c i) fe)) := by
  subst eK
  refine (pe_fld he hb).imp fun σ H Q h => ?_
  obtain ⟨fr, F, ρ, S, h⟩ := h
  refine h.dat S fun F1 H1 ρ1 v d s1 S1 r1 h => ?_
  obtain ⟨z, e1, q⟩ := h.opt
  obtain ⟨y, e2, rfl⟩ := map_some e1
  cases d <;> try cases e2
  rename_i c' xs
  cases r1 with
  | @obj p dx _ vs _ h1 l1 k1 =>
    have e3 : (if c' = c then xs[i]? else none) = some y := e2
    clear e2
    split at e3
    · rename_i ec
      subst ec
      obtain ⟨v, hv, rv⟩ := k1.get e3
      exact ⟨p, ct.ad c', dx, _, v, rfl, S1.fh _ _ h1, hc, hn, by rw [look_zip l1 hi, hv], q v F1 H1 (Same.refl _) S1 rv⟩
    · cases e3
/-! ### subscripts -/
def dIx : D → D → Option D
  | .lst xs, .int i => atI xs i | .sq xs, .int i => atI xs i | .tup xs, .int i => atI xs i
  | .str z, .int i => if z.length ≤ 16777216 then (atI z.cps.toList i).map fun c => .str ⟨#[c]⟩ else none
  | _, _ => none
theorem Rps.atI {F : Hp} {vs : List V} {ds : List D} {i : Int} {d : D} (h : Rps K ct.ad F vs ds) (e : L2.atI ds i = some d) : ∃ v, L2.atI vs i = some v ∧ Rp K ct.ad F v d := by
  unfold L2.atI at e ⊢
  rw [h.len]
  cases q : ixN ds.length i with
  | none =>
    rw [q] at e
    cases e
  | some j =>
    rw [q] at e
    exact h.get e
theorem o_ix : O2 K ct.ad (rIx K) dIx := by
  intro F H x y d e z Q s r1 r2 e1 q
  cases d <;> cases e <;> try cases e1
  · rename_i t i
    cases r1; cases r2
    have e1 : (if t.length ≤ 16777216 then (atI t.cps.toList i).map fun c => D.str ⟨#[c]⟩ else none) = some z := e1
    split at e1
    · rename_i h
      obtain ⟨c, h1, rfl⟩ := map_some e1
      exact .inr (.inr ⟨t, i, c, rfl, rfl, h, h1, q _ (.str _)⟩)
    · cases e1
  · cases r2
    cases r1 with
    | tup h k => obtain ⟨v, h1, h2⟩ := k.atI e1; exact .inr (.inl ⟨_, _, _, v, rfl, rfl, sameT s h, h1, q v h2⟩)
  · cases r2
    cases r1 with
    | lst h k => obtain ⟨v, h1, h2⟩ := k.atI e1; exact .inl ⟨_, _, _, v, rfl, rfl, SqL.of (s _ _ h), h1, q v h2⟩
  · cases r2
    cases r1 with
    | sq h k => obtain ⟨v, h1, h2⟩ := k.atI e1; exact .inl ⟨_, _, _, v, rfl, rfl, s.seq h, h1, q v h2⟩
theorem ix_seqK {X : Cx} (eK : X.K = K) : IxR X (rIx K) := by subst eK; exact ix_seq
theorem pp_ix {X : Cx} {a b : Expr} {fa fb : Ev} {pos : Pos} (eK : X.K = K) (ha : PE X a (TP K ct W fa)) (hb : PE X b (TP K ct W fb)) (hs : PlainIx b) : PE X (.Subscript a b pos) (TP K ct W (ev2 dIx fa fb)) := (pe_ix (ix_seqK eK) ha hb hs).imp fun _ _ _ => w_2 o_ix
/-! slices -/
def cut {α : Type} (xs : List α) (lo hi : Option Int) : List α := (xs.drop (HT.sIx xs.length 0 lo)).take (HT.sIx xs.length xs.length hi - HT.sIx xs.length 0 lo)
theorem Rps.cut {F : Hp} {vs : List V} {ds : List D} (h : Rps K ct.ad F vs ds) (lo hi : Option Int) : Rps K ct.ad F (cutV vs lo hi) (PL.cut ds lo hi) := by
  unfold cutV PL.cut
  rw [h.len]
  exact (h.drop _).take _
def dPart : Option Ev → M (Option Int)
  | none => pur none
  | some m => bnd (dat m) fun d => match d with | .int i => pur (some i) | _ => fai
def RO : Rel3 (Option Int) (Option Int) := fun _ _ _ _ _ a b => a = b
def evSl (m : Ev) (lo hi : Option Ev) : Ev := bnd (dat m) fun x => bnd (dPart lo) fun l => bnd (dPart hi) fun u => match x with
  | .lst xs => pur (.c (.lst (cut xs l u)))
  | .sq xs => pur (.c (.lst (cut xs l u)))
  | .tup xs => vD (.tup (cut xs l u))
  | .str z => if z.length ≤ 16777216 then vD (.str (cutS z l u)) else fai
  | _ => fai
def rSlD (K : PySem.W.Frag) : V → Option Int → Option Int → Hp → VK → Prop := fun x lo hi H Q => rSlL K x lo hi H Q ∨ rSlA K x lo hi H Q ∨ rSlS x lo hi H Q
/-! ### displays -/
inductive DE | e (m : Ev) | s (m : Ev)
def D.items : D → Option (List D) | .lst xs => some xs | .sq xs => some xs | .tup xs => some xs | _ => none
def evDs : List DE → M (List D)
  | [] => pur []
  | .e m :: r => bnd (dat m) fun d => bnd (evDs r) fun ds => pur (d :: ds)
  | .s m :: r => bnd (dat m) fun d => bnd (opt d.items) fun xs => bnd (evDs r) fun ds => pur (xs ++ ds)
variable (K ct) in
abbrev TD (W : WX) (m : M (List D)) : TA := T K ct (RDs K ct.ad) W m
theorem pd_n {X : Cx} : PA X [] (TD K ct W (evDs [])) := pa_nil.imp fun σ H Q h => by
  obtain ⟨fr, F, ρ, S, h⟩ := h
  exact Tat.ok (a := ([] : List D)) h [] F H (Same.refl _) S Rps.nil
theorem pd_c {X : Cx} {e : Expr} {es : List Expr} {m : Ev} {r : List DE} (he : PE X e (TP K ct W m)) (hr : PA X es (TD K ct W (evDs r)))
    (hs : starEach (e :: es) X.env = (false, eval e X.env) :: starEach es X.env := by rfl) : PA X (e :: es) (TD K ct W (evDs (.e m :: r))) := (pa_cons he hr hs).imp fun σ H Q h => by
  obtain ⟨fr, F, ρ, S, h⟩ := h
  refine Tat.dat h S fun F1 H1 ρ1 v d s1 S1 r1 h => ?_
  refine Tat.bnd h S1 fun F2 H2 ρ2 vs ds s2 S2 r2 h => ?_
  exact Tat.ok (a := d :: ds) h _ F2 H2 (Same.refl _) S2 (Rps.cons (r1.mono s2) r2)
theorem pd_s {X : Cx} {e : Expr} {es : List Expr} {m : Ev} {r : List DE} {p : Pos} (eK : X.K = K) (he : PE X e (TP K ct W m)) (hr : PA X es (TD K ct W (evDs r)))
    (hs : starEach (.Starred e p :: es) X.env = (true, eval e X.env) :: starEach es X.env := by rfl) : PA X (.Starred e p :: es) (TD K ct W (evDs (.s m :: r))) := (StX.pa_star he hr hs).imp fun σ H Q h => by
  subst eK
  obtain ⟨fr, F, ρ, S, h⟩ := h
  refine Tat.dat h S fun F1 H1 ρ1 v d s1 S1 r1 h => ?_
  obtain ⟨xs, ex, h⟩ := Tat.optL h
  have fin : ∀ vs, Rps X.K ct.ad F1 vs xs → T X.K ct (RDs X.K ct.ad) W (evDs r) σ H1 fun ys H2 => Q (vs ++ ys) H2 := fun vs rx => by
    refine Tat.bnd h S1 fun F2 H2 ρ2 us ds s2 S2 r2 h => ?_
    exact Tat.ok (a := xs ++ ds) h _ F2 H2 (Same.refl _) S2 ((rx.mono s2).app r2)
  cases d <;> try cases ex
  · cases r1 with | tup h1 k1 => exact ⟨_, _, rfl, .inl (sameT S1.fh h1), fin _ k1⟩
  · cases r1 with | lst h1 k1 => exact ⟨_, _, rfl, .inr (SqL.of (S1.fh _ _ h1)), fin _ k1⟩
  · cases r1 with | sq h1 k1 => exact ⟨_, _, rfl, .inr (S1.fh.seq h1), fin _ k1⟩
def evTup (es : List DE) : Ev := bnd (evDs es) fun ds => if ds.length ≤ 16777216 then vD (.tup ds) else fai
def evLst (es : List DE) : Ev := bnd (evDs es) fun ds => if ds.length ≤ 16777216 then pur (.c (.lst ds)) else fai
theorem pp_tup {X : Cx} {es : List Expr} {x1 : Nat} {r : List DE} {pos : Pos} (h : PA X es (TD K ct W (evDs r))) : PE X (.Tuple es x1 pos) (TP K ct W (evTup r)) := (pe_tup h).imp fun σ H Q h => by
  obtain ⟨fr, F, ρ, S, h⟩ := h
  refine Tat.bnd h S fun F1 H1 ρ1 vs ds s1 S1 r1 h => ?_
  have h : Tat K ct (RV K ct.ad) W fr F1 ρ1 (if ds.length ≤ 16777216 then vD (.tup ds) else fai) σ Q := h
  split at h
  · rename_i hz
    refine ⟨by rw [Rps.len r1]; exact hz, fun p hp => ?_⟩
    exact Tat.ok (a := Rv.d (.tup ds)) h _ (upd F1 p (.tup vs)) _ (same_up (S1.nn hp)) (S1.newD hp) (Rp.tup (SqT.of upd_same) (Rps.mono (same_up (S1.nn hp)) r1))
  · obtain ⟨_, _, e, _⟩ := h; cases e
theorem pp_lst {X : Cx} {es : List Expr} {r : List DE} {pos : Pos} (h : PA X es (TD K ct W (evDs r))) : PE X (.List es pos) (TP K ct W (evLst r)) := (pe_lst h).imp fun σ H Q h => by
  obtain ⟨fr, F, ρ, S, h⟩ := h
  refine Tat.bnd h S fun F1 H1 ρ1 vs ds s1 S1 r1 h => ?_
  have h : Tat K ct (RV K ct.ad) W fr F1 ρ1 (if ds.length ≤ 16777216 then pur (.c (.lst ds)) else fai) σ Q := h
  split at h
  · rename_i hz
    refine ⟨by rw [Rps.len r1]; exact hz, fun p hp => ?_⟩
    exact Tat.ok (a := Rv.c (.lst ds)) h _ F1 _ (Same.refl _) (S1.newC hp) ⟨p, rfl, S1.fresh hp ⟨_, upd_same, r1⟩⟩
  · obtain ⟨_, _, e, _⟩ := h; cases e
/-! ### texts that are put together -/
def dFmt : D → Option D
  | .str s => if s.length ≤ 16777216 then some (.str s) else none
  | .int i => if i.natAbs.log2 < 1920 then some (.str (toString i)) else none
  | _ => none
theorem pp_fmt {X : Cx} {e : Expr} {m : Ev} {pos : Pos} (he : PE X e (TP K ct W m)) : PE X (.FormattedValue e (-1) none pos) (TP K ct W (ev1 dFmt m)) := (pe_fmt he).imp fun σ H Q h => by
  obtain ⟨fr, F, ρ, S, h⟩ := h
  refine Tat.dat h S fun F1 H1 ρ1 v d s1 S1 r1 h => ?_
  obtain ⟨z, e1, q⟩ := h.opt
  obtain ⟨y, e2, rfl⟩ := map_some e1
  cases d with
  | str s =>
    have e2 : (if s.length ≤ 16777216 then some (D.str s) else none) = some y := e2
    split at e2
    · rename_i hz; cases e2; cases r1; exact .inl ⟨s, rfl, hz, q _ F1 H1 (Same.refl _) S1 (Rp.str _)⟩
    · cases e2
  | int i =>
    have e2 : (if i.natAbs.log2 < 1920 then some (D.str (toString i)) else none) = some y := e2
    split at e2
    · rename_i hz; cases e2; cases r1; exact .inr ⟨i, rfl, hz, q _ F1 H1 (Same.refl _) S1 (Rp.str _)⟩
    · cases e2
  | _ => cases e2
def evJs : List Ev → Str → M Str
  | [], acc => pur acc
  | m :: ms, acc => bnd (dat m) fun d => match d with | .str y => if (acc ++ y).length ≤ 16777216 then evJs ms (acc ++ y) else fai | _ => fai
variable (K ct) in
inductive PJs (X : Cx) (W : WX) : List Expr → List Ev → Prop where
  | nil : PJs X W [] []
  | cons {e : Expr} {m : Ev} {es : List Expr} {ms : List Ev} (h : PE X e (TP K ct W m)) (r : PJs X W es ms) : PJs X W (e :: es) (m :: ms)
theorem PJs.pj {X : Cx} : ∀ {es : List Expr} {ms : List Ev}, PJs K ct X W es ms → PJ X es (ms.map (TP K ct W))
  | _, _, .nil => .nil
  | _, _, .cons h r => .cons h r.pj
theorem w_js {fr : Fr} {Q : VK} : ∀ {ms : List Ev} {acc : Str} {F H : Hp} {ρ : List Sl}, Rel K ct fr F H σ ρ → Tat K ct (RV K ct.ad) W fr F ρ (bnd (evJs ms acc) fun s => vD (.str s)) σ Q → tJs (ms.map (TP K ct W)) acc σ H fun out H1 => Q (.str out) H1
  | [], acc, F, H, ρ, S, h => Tat.ok (a := Rv.d (.str acc)) h _ F H (Same.refl _) S (Rp.str _)
  | m :: ms, acc, F, H, ρ, S, h => by
    have e : bnd (evJs (m :: ms) acc) (fun s => vD (.str s)) = bnd (dat m) fun d => bnd (match d with | .str y => if (acc ++ y).length ≤ 16777216 then evJs ms (acc ++ y) else fai | _ => fai) fun s => vD (.str s) := by
      funext ρ
      show bnd (bnd (dat m) _) _ ρ = _
      unfold bnd
      cases em : dat m ρ with
      | none => rfl
      | some x =>
        obtain ⟨r1, ρ1⟩ := x
        cases r1 <;> rfl
    rw [e] at h
    refine Tat.dat h S fun F1 H1 ρ1 v d s1 S1 r1 h => ?_
    cases d with
    | str y =>
      cases r1
      have h : Tat K ct (RV K ct.ad) W fr F1 ρ1 (bnd (if (acc ++ y).length ≤ 16777216 then evJs ms (acc ++ y) else fai) fun s => vD (.str s)) σ Q := h
      split at h
      · rename_i hz
        exact ⟨y, rfl, hz, w_js S1 h⟩
      · obtain ⟨_, _, e, _⟩ := h; cases e
    | _ => obtain ⟨_, _, e, _⟩ := h; cases e
def evJn (ms : List Ev) : Ev := bnd (evJs ms Str.empty) fun s => vD (.str s)
theorem pp_joined {X : Cx} {v1 v2 : Expr} {rest : List Expr} {ms : List Ev} {pos : Pos} (h : PJs K ct X W (v1 :: v2 :: rest) ms) : PE X (.JoinedStr (v1 :: v2 :: rest) pos) (TP K ct W (evJn ms)) := (pe_joined h.pj).imp fun σ H Q h => by
  obtain ⟨fr, F, ρ, S, h⟩ := h
  exact w_js S h
def D.strs : List D → Option (List Str)
  | [] => some []
  | .str s :: r => (D.strs r).map (s :: ·)
  | _ :: _ => none
def D.ints : List D → Option (List Int)
  | [] => some []
  | .int s :: r => (D.ints r).map (s :: ·)
  | _ :: _ => none
def D.bools : List D → Option (List Bool)
  | [] => some []
  | .bl s :: r => (D.bools r).map (s :: ·)
  | _ :: _ => none
theorem D.strs_eq : ∀ {ds : List D} {ys : List Str}, D.strs ds = some ys → ds = ys.map D.str
  | [], _, h => by cases h; rfl
  | d :: ds, _, h => by
    cases d <;> try cases h
    obtain ⟨r, h1, rfl⟩ := map_some h
    rw [D.strs_eq h1]; rfl
theorem D.ints_eq : ∀ {ds : List D} {ys : List Int}, D.ints ds = some ys → ds = ys.map D.int
  | [], _, h => by cases h; rfl
  | d :: ds, _, h => by
    cases d <;> try cases h
    obtain ⟨r, h1, rfl⟩ := map_some h
    rw [D.ints_eq h1]; rfl
theorem D.bools_eq : ∀ {ds : List D} {ys : List Bool}, D.bools ds = some ys → ds = ys.map D.bl
  | [], _, h => by cases h; rfl
  | d :: ds, _, h => by
    cases d <;> try cases h
    obtain ⟨r, h1, rfl⟩ := map_some h
    rw [D.bools_eq h1]; rfl
theorem D.ints_map : ∀ ys : List Int, D.ints (ys.map D.int) = some ys
  | [] => rfl
  | y :: ys => by rw [List.map_cons, D.ints, D.ints_map ys]; rfl
theorem D.bools_map : ∀ ys : List Bool, D.bools (ys.map D.bl) = some ys
  | [] => rfl
  | y :: ys => by rw [List.map_cons, D.bools, D.bools_map ys]; rfl
def dJoin (a : Str) (d : D) : Option D := (d.items.bind D.strs).bind fun ys => if (ys.map (·.length)).sum + ys.length * a.length ≤ 16777216 then some (.str (Txt.join a ys)) else none
def evJoin (o e : Ev) : Ev := bnd (dat o) fun x => match x with
  | .str a => bnd (dat e) fun d => opt ((dJoin a d).map Rv.d)
  | _ => fai
/-- how items lie: a list or a tuple -/
theorem Rp.seq {F H : Hp} {v : V} {d : D} {xs : List D} (s : Same F H) (r : Rp K ad F v d) (h : d.items = some xs) : ∃ p vs, v = .ref p ∧ (SqL K H p vs ∨ SqT K H p vs) ∧ Rps K ad F vs xs := by
  cases d <;> try cases h
  · cases r with | tup h k => exact ⟨_, _, rfl, .inr (sameT s h), k⟩
  · cases r with | lst h k => exact ⟨_, _, rfl, .inl (SqL.of (s _ _ h)), k⟩
  · cases r with | sq h k => exact ⟨_, _, rfl, .inl (s.seq h), k⟩
end PL
end
section
namespace PL
open PySem PySem.Spec PyProof.Rows L2
variable {K : PySem.W.Frag} {ad : Cl → Addr} {ct : CT}
variable {fr : Fr} {F F' H H' : Hp} {σ : L2.St} {ρ : List Sl} {W : WX}
/-! ### defs -/
abbrev Fn := M Rv
variable (K ad) in
def spP (n : Nat) (G : Fn) : Sp := fun vs H Q E => vs.length = n ∧ ∃ fr F ss, Rel K (cx ad) fr F H (vs.map some) ss ∧ (∀ b, (∀ j, fr.pa j ≠ some b) → fr.P b = H b) ∧ fr.F0 = F ∧ Tat K (cx ad) (RV K ad) (fun cls d _ H' => E cls d H') fr F ss G (vs.map some) Q
variable (K ct) in
def Sat (W : WX) (D : Ends) (fr : Fr) (F : Hp) (ρ : List Sl) (s : M Fl) : Prop := ∃ r ρ', s ρ = some (r, ρ') ∧ match r with
  | .ok .nx => ∀ σ' F' H', Same F F' → Rel K ct fr F' H' σ' ρ' → D.nx σ' H'
  | .ok .bk => ∀ σ' F' H', Same F F' → Rel K ct fr F' H' σ' ρ' → D.bk σ' H'
  | .ok .ct => ∀ σ' F' H', Same F F' → Rel K ct fr F' H' σ' ρ' → D.ct σ' H'
  | .ok (.rt x) => ∀ σ' v F' H', Same F F' → Rel K ct fr F' H' σ' ρ' → RV K ct.ad fr F' H' σ' ρ' v x → D.rt v H'
  | .er c pl => ∀ σ' d F' H', Same F F' → Rel K ct fr F' H' σ' ρ' → PlR K ct.ad F' c pl d → W (.ref (ct.ad c)) d σ' H'
variable (K ct) in
def TSt (W : WX) (s : M Fl) : TS := fun D σ H => ∃ fr F ρ, Rel K ct fr F H σ ρ ∧ Sat K ct W D fr F ρ s
def outs : List Sl → List Sl → List Sl
  | .dat d :: ss, ρ => .dat d :: outs ss ρ.tail
  | .cel .par c :: ss, ρ => (ρ.head?.getD .un) :: outs ss ρ.tail
  | _ :: ss, ρ => .un :: outs ss ρ.tail
  | [], _ => []
theorem outs_len : ∀ (ss ρ : List Sl), (outs ss ρ).length = ss.length
  | [], _ => rfl
  | s :: ss, ρ => by cases s <;> first | exact congrArg (· + 1) (outs_len ss _) | (rename_i k c; cases k <;> exact congrArg (· + 1) (outs_len ss _))
theorem outs_get : ∀ (ss ρ : List Sl) (i : Nat) (s : Sl), (outs ss ρ)[i]? = some s → (∃ d, ss[i]? = some (.dat d) ∧ s = .dat d) ∨ (∃ c, ss[i]? = some (.cel .par c) ∧ s = (ρ[i]?).getD .un) ∨ s = .un
  | [], _, _, _, h => by simp [outs] at h
  | x :: ss, ρ, 0, s, h => by
    cases x with
    | dat d => simp only [outs, List.getElem?_cons_zero, Option.some.injEq] at h; exact .inl ⟨d, rfl, h.symm⟩
    | cel k c =>
      cases k <;> simp only [outs, List.getElem?_cons_zero, Option.some.injEq] at h
      all_goals first
        | exact .inr (.inr h.symm)
        | (refine .inr (.inl ⟨c, rfl, ?_⟩); rw [← h]; cases ρ <;> rfl)
    | un => simp only [outs, List.getElem?_cons_zero, Option.some.injEq] at h; exact .inr (.inr h.symm)
    | exn c pl => simp only [outs, List.getElem?_cons_zero, Option.some.injEq] at h; exact .inr (.inr h.symm)
  | x :: ss, ρ, i + 1, s, h => by
    have e : (outs (x :: ss) ρ)[i + 1]? = (outs ss ρ.tail)[i]? := by
      cases x <;> first | rfl | (rename_i k c; cases k <;> rfl)
    rw [e] at h
    have t : ρ.tail[i]? = ρ[i + 1]? := by cases ρ <;> simp
    have z := outs_get ss ρ.tail i s h
    rw [t] at z
    simpa using z
theorem outs_par : ∀ (ss ρ : List Sl) (i : Nat) (c : CC), ss[i]? = some (.cel .par c) → (outs ss ρ)[i]? = some ((ρ[i]?).getD .un)
  | [], _, _, _, h =>
    by simp at h
  | x :: ss, ρ, 0, c, h => by
    (simp only [List.getElem?_cons_zero, Option.some.injEq] at h)
    subst h
    cases ρ <;> rfl
  | x :: ss, ρ, i + 1, c, h => by
    have e : (outs (x :: ss) ρ)[i + 1]? = (outs ss ρ.tail)[i]? := by
      cases x <;> first | rfl | (rename_i k c; cases k <;> rfl)
    have t : ρ.tail[i]? = ρ[i + 1]? := by cases ρ <;> simp
    rw [e, outs_par ss ρ.tail i c (by simpa using h), t]
def runB (k : Nat) (s : M Fl) : Fn := fun ss => match s (ss ++ List.replicate k .un) with
  | some (.ok .nx, ρ) => some (.ok (.d .non), outs ss ρ)
  | some (.ok (.rt r), ρ) => some (.ok r, outs ss ρ)
  | some (.er c pl, ρ) => some (.er c pl, outs ss ρ)
  | _ => none
theorem Rel.outs {fr : Fr} {F F' H H' : Hp} {vs : List V} {ss : List Sl} {σ' : L2.St} {ρ' : List Sl} (S : Rel K ct fr F H (vs.map some) ss) (S' : Rel K ct fr F' H' σ' ρ') (s : Same F F') : Rel K ct fr F' H' (vs.map some) (PL.outs ss ρ') := by
  have cl : ∀ {i : Nat} {k : CK} {c : CC}, (PL.outs ss ρ')[i]? = some (.cel k c) → ∃ c0 p, ss[i]? = some (.cel .par c0) ∧ ρ'[i]? = some (.cel k c) ∧ fr.pa i = some p ∧ (vs.map some)[i]? = some (some (.ref p)) := fun {i k c} e => by
    rcases outs_get ss ρ' i _ e with ⟨d, _, z⟩ | ⟨c0, h1, h2⟩ | z
    · cases z
    · have h3 : ρ'[i]? = some (.cel k c) := by
        cases q : ρ'[i]? with
        | none => rw [q] at h2; cases h2
        | some x => rw [q] at h2; exact congrArg some h2.symm
      obtain ⟨o, g1, p, g2, g3, g4, g5, g6, g7⟩ := S.slot i _ h1
      subst g2
      exact ⟨c0, p, h1, h3, g5 rfl, g1⟩
    · cases z
  refine ⟨by rw [outs_len]; exact S.len, S'.fh, fun i s0 e => ?_, fun i j k c k' c' p e1 e2 h1 h2 => ?_, S'.keep, S'.fro, fun i p e => ?_⟩
  · rcases outs_get ss ρ' i _ e with ⟨d, h1, rfl⟩ | ⟨c0, h1, h2⟩ | rfl
    · obtain ⟨o, g1, v, g2, g3⟩ := S.slot i _ h1
      exact ⟨o, g1, v, g2, g3.mono s⟩
    · obtain ⟨o, g1, p, g2, g3, g4, g5, g6, g7⟩ := S.slot i _ h1
      have pi := g5 rfl
      obtain ⟨k, c, q1, q2⟩ := S'.pcs i p pi
      rw [q1] at h2
      have h2 : s0 = .cel k c := h2
      subst h2
      obtain ⟨o', w1, p', w2, w3, w4, w5, w6, w7⟩ := S'.slot i _ q1
      have := w5 q2
      rw [pi] at this
      cases this
      subst g2
      exact ⟨_, g1, _, rfl, w3, w4, w5, w6, w7⟩
    · obtain ⟨l, _⟩ := List.getElem?_eq_some_iff.mp e
      rw [outs_len, ← S.len] at l
      exact ⟨_, List.getElem?_eq_getElem l, trivial⟩
  · obtain ⟨_, _, a1, _, _, _⟩ := cl e1
    obtain ⟨_, _, a2, _, _, _⟩ := cl e2
    exact S.dis i j _ _ _ _ p a1 a2 h1 h2
  · obtain ⟨k, c, h1, h2⟩ := S.pcs i p e
    obtain ⟨k', c', q1, q2⟩ := S'.pcs i p e
    have hk : k = .par := by cases k <;> simp [CK.isPar] at h2 ⊢
    subst hk
    obtain ⟨l, _⟩ := List.getElem?_eq_some_iff.mp h1
    have l2 : i < (PL.outs ss ρ').length := by rw [outs_len]; exact l
    rcases outs_get ss ρ' i _ (List.getElem?_eq_getElem l2) with ⟨d, z, _⟩ | ⟨c0, z1, z2⟩ | z
    · rw [h1] at z; cases z
    · refine ⟨k', c', ?_, q2⟩
      rw [List.getElem?_eq_getElem l2, z2, q1]; rfl
    · obtain ⟨o, g1, p', g2, g3, g4, g5, g6, g7⟩ := S.slot i _ h1
      have e2 := outs_par ss ρ' i c h1
      rw [List.getElem?_eq_getElem l2, z, q1] at e2
      cases e2
/-- the end of a body is the def's end -/
theorem body_end {n k : Nat} {s : M Fl} {vs : List V} {N : List Str} {H : Hp} {Q : VK} {E : XK} (hN : N.length = n + k) (h : spP K ad n (runB k s) vs H Q E) :
    TSt K (cx ad) (fun cls d _ H' => E cls d H') s { nx := fun _ H' => Q .non H', rt := Q } (L2.start N vs) H := by
  obtain ⟨hn, fr, F, ss, S, hP, hF, r, ss', e, q⟩ := h
  have S0 : Rel K (cx ad) fr F H (L2.start N vs) (ss ++ List.replicate k .un) := by
    have l1 : vs.length = ss.length := by have := S.len; rw [List.length_map] at this; exact this
    have ek : N.length - vs.length = k := by omega
    unfold L2.start
    rw [ek]
    have cel : ∀ {i : Nat} {k' : CK} {c : CC}, (ss ++ List.replicate k Sl.un)[i]? = some (.cel k' c) → ss[i]? = some (.cel k' c) := fun {i k' c} z => by
      by_cases l : i < ss.length
      · rw [List.getElem?_append_left l] at z; exact z
      · rw [List.getElem?_append_right (by omega), List.getElem?_replicate] at z
        split at z <;> cases z
    have get : ∀ {i : Nat}, i < ss.length → (vs.map some ++ List.replicate k (none : Option V))[i]? = (vs.map some)[i]? := fun {i} l => List.getElem?_append_left (by rw [List.length_map]; omega)
    refine ⟨by simp [l1], S.fh, fun i s0 z => ?_, fun i j k1 c k2 c' p z1 z2 z3 z4 => ?_, S.keep, S.fro, fun i p z => ?_⟩
    · by_cases l : i < ss.length
      · rw [List.getElem?_append_left l] at z
        obtain ⟨o, g1, g2⟩ := S.slot i s0 z
        exact ⟨o, by rw [get l]; exact g1, g2⟩
      · have l3 := (List.getElem?_eq_some_iff.mp z).1
        rw [List.getElem?_append_right (by omega), List.getElem?_replicate] at z
        split at z
        · cases z
          refine ⟨none, ?_, trivial⟩
          rw [List.getElem?_append_right (by rw [List.length_map]; omega), List.getElem?_replicate, if_pos (by simp at l3 ⊢; omega)]
        · cases z
    · have y1 := cel z1
      have y2 := cel z2
      rw [get (List.getElem?_eq_some_iff.mp y1).1] at z3
      rw [get (List.getElem?_eq_some_iff.mp y2).1] at z4
      exact S.dis i j _ _ _ _ p y1 y2 z3 z4
    · obtain ⟨k1, c, h1, h2⟩ := S.pcs i p z
      exact ⟨k1, c, by rw [List.getElem?_append_left (List.getElem?_eq_some_iff.mp h1).1]; exact h1, h2⟩
  refine ⟨fr, F, _, S0, ?_⟩
  unfold runB at e
  cases em : s (ss ++ List.replicate k .un) with
  | none => rw [em] at e; cases e
  | some x =>
    obtain ⟨r1, ρ1⟩ := x
    rw [em] at e
    refine ⟨r1, ρ1, em, ?_⟩
    cases r1 with
    | er c pl =>
      cases e
      exact fun σ' d F' H' s' S' pr => q d F' H' s' (S.outs S' s') pr
    | ok fl =>
      cases fl with
      | nx => cases e; exact fun σ' F' H' s' S' => q _ F' H' s' (S.outs S' s') Rp.non
      | bk => cases e
      | ct => cases e
      | rt x =>
        cases e
        intro σ' v F' H' s' S' rv
        refine q v F' H' s' (S.outs S' s') ?_
        cases x with
        | d d => exact rv
        | c c =>
          obtain ⟨p, ev, f1, f2, f3, f4, f5⟩ := rv
          refine ⟨p, ev, f1, f2, f3, f4, fun i k' c' z1 z2 => ?_⟩
          have S2 := S.outs S' s'
          obtain ⟨o, g1, p', g2, g3, g4, g5, g6, g7⟩ := S2.slot i _ z1
          rw [g1] at z2
          subst g2
          cases z2
          rcases outs_get ss ρ1 i _ z1 with ⟨d, _, w⟩ | ⟨c0, w1, w2⟩ | w
          · cases w
          · obtain ⟨o, y1, p2, y2, y3, y4, y5, y6, y7⟩ := S.slot i _ w1
            subst y2
            rw [g1] at y1
            cases y1
            exact f3 i (y5 rfl)
          · cases w
section
variable {P : Program} {w : World} {mg : Str → Option Value} {base : Heap} {x qual : Str} {st : Stmt} {f : Addr} {fd : FuncData} {N ps : List Str} {lv : Nat} {n k : Nat} {s : M Fl}
theorem okX (Fd : L2.Fun K x qual st f fd) (S : FnScope N ps (defScope st)) (hp : ps.length = n) (hN : N.length = n + k)
    (hb : ∀ (cdv : Value) (A : Around) (outer : List Env) (s0 : Shared) (H : Hp) (E : XK), Room lv (A.deeper (envOfC qual (defScope st) s0.heap.objs.size f cdv)) →
      PSs (cxOf (L2.CX P w) P w K mg base N qual (defScope st) f cdv A outer s0 H E) (defBody st) (TSt K (cx ad) (fun cls d _ H' => E cls d H') s)) : FnOk P w K mg base (L2.CX P w) (lv + 1) f fd ps (spP K ad n (runB k s)) :=
  Fd.okX S (fun vs H Q E h => by rw [hp]; exact h.1) fun cdv A outer s0 H vs Q E hr h => ⟨_, hb cdv A outer s0 H E hr, body_end hN h⟩
end
/-! ### calls -/
inductive AE | e (m : Ev) | c (j : Nat)
def evAs : List AE → M (List Ar)
  | [] => pur []
  | .e m :: r => bnd (dat m) fun d => bnd (evAs r) fun as => pur (.d d :: as)
  | .c j :: r => fun ρ => match ρ[j]? with
    | some (.cel _ _) => bnd (evAs r) (fun as => pur (.c j :: as)) ρ
    | _ => none
def argSl (ρ : List Sl) : List Ar → Option (List Sl)
  | [] => some []
  | .d d :: r => (argSl ρ r).map (.dat d :: ·)
  | .c j :: r => match ρ[j]? with
    | some (.cel _ c) => (argSl ρ r).map (.cel .par c :: ·)
    | _ => none
def celsOf : List Ar → List Nat
  | [] => []
  | .d _ :: r => celsOf r
  | .c j :: r => j :: celsOf r
def newc : List Ar → List Sl → Nat → Option CC
  | .c j :: ar, .cel _ c :: ss, i => match newc ar ss i with | some c' => some c' | none => if i = j then some c else none
  | _ :: ar, _ :: ss, i => newc ar ss i
  | _, _, _ => none
def updc (ρ : List Sl) (j : Nat) (c : CC) : List Sl := match ρ[j]? with
  | some (.cel k _) => ρ.set j (.cel k c)
  | _ => ρ
def back (ρ : List Sl) : List Ar → List Sl → List Sl
  | .c j :: ar, .cel _ c :: ss => back (updc ρ j c) ar ss
  | _ :: ar, _ :: ss => back ρ ar ss
  | _, _ => ρ
def callG (n : Nat) (G : Fn) (ar : List Ar) : Ev := fun ρ => match argSl ρ ar with
  | none => none
  | some ss => if ar.length = n ∧ (celsOf ar).Nodup then match G ss with
      | none => none
      | some (r, ss') => some (r, back ρ ar ss')
    else none
def evCall (n : Nat) (G : Fn) (as : List AE) (ds : List D := []) : Ev := bnd (evAs as) fun ar => callG n G (ar ++ ds.map .d)
/-- a result that is no exception -/
def noEr {α : Type} (m : M α) : M α := fun ρ => match m ρ with | some (.ok a, ρ') => some (.ok a, ρ') | _ => none
theorem updc_get (ρ : List Sl) (j : Nat) (c : CC) (i : Nat) : (updc ρ j c)[i]? = (ρ[i]?).map fun s => match s with | .cel k c0 => .cel k (if i = j then c else c0) | s => s := by
  unfold updc
  split
  · rename_i k c0 h
    by_cases q : j = i
    · subst q
      rw [List.getElem?_set_self (List.getElem?_eq_some_iff.mp h).1, h]
      simp
    · rw [List.getElem?_set_ne q]
      cases e : ρ[i]? with
      | none => rfl
      | some s => cases s <;> simp [show ¬ i = j from fun z => q z.symm]
  · rename_i h
    cases e : ρ[i]? with
    | none => rfl
    | some s =>
      cases s <;> try rfl
      rename_i k c0
      by_cases q : i = j
      · subst q
        exact absurd e (h _ _)
      · simp [q]
theorem back_get : ∀ (ar : List Ar) (ss ρ : List Sl) (i : Nat), (back ρ ar ss)[i]? = (ρ[i]?).map fun s => match s with | .cel k c0 => .cel k ((newc ar ss i).getD c0) | s => s
  | [], ss, ρ, i => by
    cases e : ρ[i]? with
    | none => simp [back, e]
    | some s => cases s <;> simp [back, e, newc]
  | a :: ar, [], ρ, i => by
    cases e : ρ[i]? with
    | none => cases a <;> simp [back, e]
    | some s => cases a <;> cases s <;> simp [back, e, newc]
  | .d d :: ar, s :: ss, ρ, i => by
    rw [show back ρ (.d d :: ar) (s :: ss) = back ρ ar ss from rfl, back_get ar ss ρ i]
    rfl
  | .c j :: ar, s :: ss, ρ, i => by
    cases s with
    | cel k c =>
      rw [show back ρ (.c j :: ar) (.cel k c :: ss) = back (updc ρ j c) ar ss from rfl, back_get ar ss _ i, updc_get]
      cases e : ρ[i]? with
      | none => rfl
      | some s =>
        cases s <;> try rfl
        rename_i k0 c0
        simp only [Option.map_some, newc]
        cases newc ar ss i with
        | some c' => rfl
        | none => by_cases q : i = j <;> simp [q]
    | _ => rw [show back ρ (.c j :: ar) (_ :: ss) = back ρ ar ss from rfl, back_get ar ss ρ i]; rfl
theorem newc_some : ∀ {ar : List Ar} {ss : List Sl} {i : Nat} {c : CC}, newc ar ss i = some c → ∃ (q : Nat) (k : CK), ar[q]? = some (Ar.c i) ∧ ss[q]? = some (Sl.cel k c)
  | [], _, _, _, h => by simp [newc] at h
  | .d _ :: _, [], _, _, h => by simp [newc] at h
  | .c _ :: _, [], _, _, h => by simp [newc] at h
  | .d d :: ar, s :: ss, i, c, h => by
    have h : newc ar ss i = some c := h
    obtain ⟨q, k, h1, h2⟩ := newc_some h
    exact ⟨q + 1, k, by simpa using h1, by simpa using h2⟩
  | .c j :: ar, s :: ss, i, c, h => by
    have back' : newc ar ss i = some c → ∃ (q : Nat) (k : CK), (Ar.c j :: ar)[q]? = some (Ar.c i) ∧ (s :: ss)[q]? = some (Sl.cel k c) := fun h => by
      obtain ⟨q, k, h1, h2⟩ := newc_some h
      exact ⟨q + 1, k, by simpa using h1, by simpa using h2⟩
    cases s with
    | cel k c0 =>
      cases en : newc ar ss i with
      | some c' =>
        have h2 : (match newc ar ss i with | some c' => some c' | none => if i = j then some c0 else none) = some c := h
        rw [en] at h2
        exact back' (en.trans h2)
      | none =>
        have h2 : (match newc ar ss i with | some c' => some c' | none => if i = j then some c0 else none) = some c := h
        rw [en] at h2
        have h3 : (if i = j then some c0 else none) = some c := h2
        by_cases q : i = j
        · rw [if_pos q] at h3
          cases h3
          exact ⟨0, k, by rw [q]; rfl, rfl⟩
        · rw [if_neg q] at h3
          cases h3
    | _ => exact back' h
theorem newc_of : ∀ {ar : List Ar} {ss : List Sl} {i q : Nat} {k : CK} {c : CC}, ar[q]? = some (.c i) → ss[q]? = some (.cel k c) → ∃ c', newc ar ss i = some c'
  | [], _, _, _, _, _, h, _ =>
    by simp at h
  | _ :: _, [], _, _, _, _, _, h =>
    by simp at h
  | a :: ar, s :: ss, i, 0, k, c, h1, h2 => by
    simp only [List.getElem?_cons_zero, Option.some.injEq] at h1 h2
    subst h1 h2
    show ∃ c', (match newc ar ss i with | some c' => some c' | none => if i = i then some c else none) = some c'
    split
    · exact ⟨_, rfl⟩
    · exact ⟨c, by simp⟩
  | a :: ar, s :: ss, i, q + 1, k, c, h1, h2 => by
    obtain ⟨c', e⟩ := newc_of (ar := ar) (ss := ss) (i := i) (q := q) (by simpa using h1) (by simpa using h2)
    cases a with
    | d d => exact ⟨c', e⟩
    | c j =>
      cases s with
      | cel k0 c0 =>
        show ∃ c', (match newc ar ss i with | some c' => some c' | none => if i = j then some c0 else none) = some c'
        rw [e]
        exact ⟨c', rfl⟩
      | _ => exact ⟨c', e⟩
theorem argSl_len {ρ : List Sl} : ∀ {ar : List Ar} {ss : List Sl}, argSl ρ ar = some ss → ss.length = ar.length
  | [], _, h => by cases h; rfl
  | .d d :: r, _, h => by
    obtain ⟨s, h1, rfl⟩ := map_some h
    exact congrArg (· + 1) (argSl_len h1)
  | .c j :: r, _, h => by
    unfold argSl at h
    split at h
    · obtain ⟨s, h1, rfl⟩ := map_some h
      exact congrArg (· + 1) (argSl_len h1)
    · cases h
theorem argSl_get {ρ : List Sl} : ∀ {ar : List Ar} {ss : List Sl} {i : Nat}, argSl ρ ar = some ss → i < ar.length → (∃ d, ar[i]? = some (.d d) ∧ ss[i]? = some (.dat d)) ∨ ∃ j k c, ar[i]? = some (.c j) ∧ ρ[j]? = some (.cel k c) ∧ ss[i]? = some (.cel .par c)
  | [], _, _, _, l =>
    by simp at l
  | .d d :: r, _, i, h, l => by
    obtain ⟨s, h1, rfl⟩ := map_some h
    cases i with
    | zero => exact .inl ⟨d, rfl, rfl⟩
    | succ i => simpa using argSl_get (i := i) h1 (by simpa using l)
  | .c j :: r, _, i, h, l => by
    unfold argSl at h
    split at h
    · rename_i k c e
      obtain ⟨s, h1, rfl⟩ := map_some h
      cases i with
      | zero => exact .inr ⟨j, k, c, rfl, e, rfl⟩
      | succ i => simpa using argSl_get (i := i) h1 (by simpa using l)
    · cases h
theorem celsOf_inj : ∀ {ar : List Ar} {p q j : Nat}, (celsOf ar).Nodup → ar[p]? = some (.c j) → ar[q]? = some (.c j) → p = q := by
  intro ar
  have mem : ∀ {ar : List Ar} {q j : Nat}, ar[q]? = some (.c j) → j ∈ celsOf ar := by
    intro ar
    induction ar with
    | nil => intro q j h; simp at h
    | cons a ar ih =>
      intro q j h
      cases q with
      | zero => simp only [List.getElem?_cons_zero, Option.some.injEq] at h; subst h; exact List.mem_cons_self
      | succ q =>
        have z := ih (q := q) (by simpa using h)
        cases a with
        | d _ => exact z
        | c _ => exact List.mem_cons_of_mem _ z
  induction ar with
  | nil => intro p q j _ h; simp at h
  | cons a ar ih =>
    intro p q j nd h1 h2
    cases a with
    | d _ =>
      cases p with
      | zero => simp at h1
      | succ p =>
        cases q with
        | zero => simp at h2
        | succ q => rw [ih nd (p := p) (q := q) (by simpa using h1) (by simpa using h2)]
    | c j0 =>
      have nd : (j0 :: celsOf ar).Nodup := nd
      rw [List.nodup_cons] at nd
      cases p with
      | zero =>
        cases q with
        | zero => rfl
        | succ q =>
          simp only [List.getElem?_cons_zero, Option.some.injEq, Ar.c.injEq] at h1
          subst h1
          exact absurd (mem (q := q) (by simpa using h2)) nd.1
      | succ p =>
        cases q with
        | zero =>
          simp only [List.getElem?_cons_zero, Option.some.injEq, Ar.c.injEq] at h2
          subst h2
          exact absurd (mem (q := p) (by simpa using h1)) nd.1
        | succ q => rw [ih nd.2 (p := p) (q := q) (by simpa using h1) (by simpa using h2)]
theorem RAs.get {F : Hp} {σ : L2.St} : ∀ {vs : List V} {as : List Ar} {i : Nat} {a : Ar}, RAs K ct.ad F σ vs as → as[i]? = some a → ∃ v, vs[i]? = some v ∧ RA1 K ct.ad F σ v a
  | _, _, _, _, .nil, e =>
    by simp at e
  | _, _, 0, _, .cons h _, e => by simp at e; subst e; exact ⟨_, rfl, h⟩
  | _, _, i + 1, a, .cons _ t, e => by
    obtain ⟨v, h1, h2⟩ := RAs.get (i := i) (a := a) t (by simpa using e)
    exact ⟨v, by simpa using h1, h2⟩
theorem RAs.len {F : Hp} {σ : L2.St} : ∀ {vs : List V} {as : List Ar}, RAs K ct.ad F σ vs as → vs.length = as.length
  | _, _, .nil => rfl
  | _, _, .cons _ r => congrArg (· + 1) r.len
open Classical in
/-- the frame of a call -/
noncomputable def callFr (F H : Hp) (σ : L2.St) (ar : List Ar) : Fr :=
  let pa : Nat → Option Addr := fun i => match ar[i]? with
    | some (.c j) => (match σ[j]? with | some (some (.ref p)) => some p | _ => none)
    | _ => none
  ⟨fun b => if ∃ i, pa i = some b then none else H b, F, pa⟩
theorem callFr_pa {F H : Hp} {σ : L2.St} {ar : List Ar} {i p : Nat} (h : (callFr F H σ ar).pa i = some p) : ∃ j, ar[i]? = some (.c j) ∧ σ[j]? = some (some (.ref p)) := by
  have h : (match ar[i]? with | some (.c j) => (match σ[j]? with | some (some (.ref p)) => some p | _ => none) | _ => none) = some p := h
  split at h
  · rename_i j e
    split at h
    · rename_i q e2; cases h; exact ⟨j, e, e2⟩
    · cases h
  · cases h
theorem callFr_of {F H : Hp} {σ : L2.St} {ar : List Ar} {i j p : Nat} (h : ar[i]? = some (.c j)) (h2 : σ[j]? = some (some (.ref p))) : (callFr F H σ ar).pa i = some p := by
  show (match ar[i]? with | some (.c j) => (match σ[j]? with | some (some (.ref p)) => some p | _ => none) | _ => none) = some p
  rw [h]
  show (match σ[j]? with | some (some (.ref p)) => some p | _ => none) = some p
  rw [h2]
open Classical in
theorem callFr_P {F H : Hp} {σ : L2.St} {ar : List Ar} {b : Addr} (h : ∀ i, (callFr F H σ ar).pa i ≠ some b) : (callFr F H σ ar).P b = H b := by
  show (if ∃ i, (callFr F H σ ar).pa i = some b then none else H b) = H b
  exact if_neg (fun ⟨i, e⟩ => h i e)
open Classical in
theorem callFr_N {F H : Hp} {σ : L2.St} {ar : List Ar} {b : Addr} {i : Nat} (h : (callFr F H σ ar).pa i = some b) : (callFr F H σ ar).P b = none := by
  show (if ∃ i, (callFr F H σ ar).pa i = some b then none else H b) = none
  exact if_pos ⟨i, h⟩
/-- into a call -/
theorem Rel.enter {vs : List V} {ar : List Ar} {ss : List Sl} (S : Rel K ct fr F H σ ρ) (r : RAs K ct.ad F σ vs ar) (e : argSl ρ ar = some ss) (nd : (celsOf ar).Nodup) : Rel K (cx ct.ad) (callFr F H σ ar) F H (vs.map some) ss := by
  have ls := argSl_len e
  have lv := r.len
  have cel : ∀ {i : Nat} {k : CK} {c : CC}, ss[i]? = some (.cel k c) → k = .par ∧ ∃ j k0 p, ar[i]? = some (.c j) ∧ ρ[j]? = some (.cel k0 c) ∧ σ[j]? = some (some (.ref p)) ∧ vs[i]? = some (.ref p) ∧ F p = none ∧ CelR K ct.ad F H p c := fun {i k c} z => by
    have l := (List.getElem?_eq_some_iff.mp z).1
    rcases argSl_get (i := i) e (by omega) with ⟨d, h1, h2⟩ | ⟨j, k0, c0, h1, h2, h3⟩
    · rw [z] at h2; cases h2
    · rw [z] at h3
      cases h3
      obtain ⟨v, g1, g2⟩ := r.get h1
      obtain ⟨o, q1, p, q2, q3, q4, q5, q6, q7⟩ := S.slot j _ h2
      subst q2
      have g2 : σ[j]? = some (some v) := g2
      rw [q1] at g2
      cases g2
      exact ⟨rfl, j, k0, p, h1, h2, q1, g1, q3, q7⟩
  refine ⟨by rw [List.length_map]; omega, S.fh, fun i s z => ?_, fun i i' k c k' c' p z1 z2 z3 z4 => ?_, fun b o z => ?_, fun b _ z => z, fun i p z => ?_⟩
  · have l := (List.getElem?_eq_some_iff.mp z).1
    rcases argSl_get (i := i) e (by omega) with ⟨d, h1, h2⟩ | ⟨j, k0, c0, h1, h2, h3⟩
    · rw [z] at h2
      cases h2
      obtain ⟨v, g1, g2⟩ := r.get h1
      exact ⟨some v, by rw [List.getElem?_map, g1]; rfl, v, rfl, g2⟩
    · rw [z] at h3
      cases h3
      obtain ⟨_, j', k0', p, a1, a2, a3, a4, a5, a6⟩ := cel z
      have pa := callFr_of (F := F) (H := H) a1 a3
      exact ⟨some (.ref p), by rw [List.getElem?_map, a4]; rfl, p, rfl, a5, callFr_N pa, fun _ => pa, (fun w => by cases w), a6⟩
  ·
    obtain ⟨_, j, k0, p1, a1, a2, a3, a4, _⟩ := cel z1
    obtain ⟨_, j', k0', p2, b1, b2, b3, b4, _⟩ := cel z2
    rw [List.getElem?_map, a4] at z3
    rw [List.getElem?_map, b4] at z4
    cases z3
    cases z4
    have := S.dis j j' _ _ _ _ _ a2 b2 a3 b3
    subst this
    exact celsOf_inj nd a1 b1
  · by_cases w : ∃ i, (callFr F H σ ar).pa i = some b
    · obtain ⟨i, w⟩ := w; rw [callFr_N w] at z; cases z
    · rw [callFr_P (fun i q => w ⟨i, q⟩)] at z; exact z
  · obtain ⟨j, h1, h2⟩ := callFr_pa z
    have l := (List.getElem?_eq_some_iff.mp h1).1
    rcases argSl_get (i := i) e l with ⟨d, g1, g2⟩ | ⟨j', k0, c0, g1, g2, g3⟩
    · rw [h1] at g1; cases g1
    · exact ⟨.par, c0, g3, rfl⟩
/-- out of a call -/
theorem Rel.leave {vs : List V} {ar : List Ar} {ss ss' : List Sl} (S : Rel K ct fr F H σ ρ) (r : RAs K ct.ad F σ vs ar) (e : argSl ρ ar = some ss) (s : Same F F') (R : Rel K (cx ct.ad) (callFr F H σ ar) F' H' (vs.map some) ss') :
    Rel K ct fr F' H' σ (back ρ ar ss') ∧ ∀ p c, Fresh K ct.ad (callFr F H σ ar) F' H' (vs.map some) ss' p c → Fresh K ct.ad fr F' H' σ (back ρ ar ss') p c := by
  have lv := r.len
  -- what stands at a passed cell
  have passed : ∀ {q b : Nat}, (callFr F H σ ar).pa q = some b → ∃ j k c, ar[q]? = some (.c j) ∧ σ[j]? = some (some (.ref b)) ∧ ρ[j]? = some (.cel k c) := fun {q b} z => by
    obtain ⟨j, h1, h2⟩ := callFr_pa z
    rcases argSl_get (i := q) e (List.getElem?_eq_some_iff.mp h1).1 with ⟨d, g1, g2⟩ | ⟨j', k0, c0, g1, g2, g3⟩
    · rw [h1] at g1; cases g1
    · rw [h1] at g1; cases g1; exact ⟨j, k0, c0, h1, h2, g2⟩
  have notP : ∀ {b : Addr} {o : HO}, fr.P b = some o → ∀ q, (callFr F H σ ar).pa q ≠ some b := fun {b o} z q w => by
    obtain ⟨j, k, c, h1, h2, h3⟩ := passed w
    obtain ⟨o', q1, p, q2, q3, q4, q5, q6, q7⟩ := S.slot j _ h3
    rw [q1] at h2
    cases q2
    cases h2
    rw [q4] at z
    cases z
  have bk : ∀ {i : Nat} {k : CK} {c : CC}, (back ρ ar ss')[i]? = some (.cel k c) → ∃ c0, ρ[i]? = some (.cel k c0) := fun {i k c} z => by
    rw [back_get] at z
    cases q : ρ[i]? with
    | none => rw [q] at z; cases z
    | some x =>
      rw [q] at z
      cases x <;> simp only [Option.map_some, Option.some.injEq] at z <;> try cases z
      exact ⟨_, rfl⟩
  have lenb : (back ρ ar ss').length = ρ.length := by
    have h1 : ∀ i, (back ρ ar ss')[i]? = none ↔ ρ[i]? = none := fun i => by rw [back_get]; cases ρ[i]? <;> simp
    have a := (h1 ρ.length).mpr (by simp)
    have b := (h1 (back ρ ar ss').length).mp (by simp)
    rw [List.getElem?_eq_none_iff] at a b
    omega
  refine ⟨⟨by rw [lenb]; exact S.len, R.fh, fun i s0 z => ?_, fun i j k c k' c' p z1 z2 z3 z4 => ?_, fun b o z => ?_, fun b hb h0 => ?_, fun i p z => ?_⟩, fun p c f => ?_⟩
  · rw [back_get] at z
    cases q : ρ[i]? with
    | none => rw [q] at z; cases z
    | some x =>
      rw [q] at z
      obtain ⟨o, g1, g2⟩ := S.slot i x q
      refine ⟨o, g1, ?_⟩
      cases x with
      | un => cases z; trivial
      | dat d => cases z; obtain ⟨v, a1, a2⟩ := g2; exact ⟨v, a1, a2.mono s⟩
      | exn c pl => cases z; exact ⟨g2.1, g2.2.1, g2.2.2.mono s⟩
      | cel k c0 =>
        simp only [Option.map_some, Option.some.injEq] at z
        subst z
        obtain ⟨p, a1, a2, a3, a4, a5, a6⟩ := g2
        subst a1
        cases hn : newc ar ss' i with
        | some c' =>
          obtain ⟨w, k1, h1, h2⟩ := newc_some hn
          have pa := callFr_of (F := F) (H := H) h1 g1
          obtain ⟨o1, b1, p1, b2, b3, b4, b5, b6, b7⟩ := R.slot w _ h2
          obtain ⟨k2, c2, d1, d2⟩ := R.pcs w p pa
          rw [h2] at d1
          cases d1
          have := b5 d2
          rw [pa] at this
          cases this
          exact ⟨_, rfl, b3, a3, a4, a5, b7⟩
        | none =>
          have np : ∀ w, (callFr F H σ ar).pa w ≠ some p := fun w y => by
            obtain ⟨j, k2, c2, h1, h2, h3⟩ := passed y
            have := S.dis i j _ _ _ _ p q h3 g1 h2
            subst this
            obtain ⟨k3, c3, d1, d2⟩ := R.pcs w p y
            obtain ⟨c4, d3⟩ := newc_of h1 d1
            rw [hn] at d3
            cases d3
          obtain ⟨u, hu⟩ := a6.at
          have hP : (callFr F H σ ar).P p = some u := by rw [callFr_P np, hu]
          have h' := R.keep p u hP
          have f' : F' p = none := R.fro p (by rw [hP]; simp) a2
          exact ⟨p, rfl, f', a3, a4, a5, a6.keep s (by rw [h', hu])⟩
  · obtain ⟨_, y1⟩ := bk z1
    obtain ⟨_, y2⟩ := bk z2
    exact S.dis i j _ _ _ _ p y1 y2 z3 z4
  · exact R.keep b o (by rw [callFr_P (notP z)]; exact S.keep b o z)
  · have fb := S.fro b hb h0
    cases w : fr.P b with
    | none => exact absurd w hb
    | some o => exact R.fro b (by rw [callFr_P (notP w), S.keep b o w]; simp) fb
  · obtain ⟨k, c, h1, h2⟩ := S.pcs i p z
    refine ⟨k, (newc ar ss' i).getD c, ?_, h2⟩
    rw [back_get, h1]; rfl
  · obtain ⟨f1, f2, f3, f4, f5⟩ := f
    have hp : H p = none := by rw [← callFr_P f3]; exact f2
    refine ⟨f1, S.np hp, fun j w => ?_, f4, fun i k c' z1 z2 => ?_⟩
    · obtain ⟨k, c1, h1, h2⟩ := S.pcs j p w
      obtain ⟨o, g1, p', g2, g3, g4, g5, g6, g7⟩ := S.slot j _ h1
      have := g5 h2
      rw [w] at this
      cases this
      obtain ⟨u, hu⟩ := g7.at
      rw [hp] at hu
      cases hu
    · obtain ⟨c0, y⟩ := bk z1
      obtain ⟨p', o', y1, y2⟩ := S.cell_at y
      rw [y1] at z2
      cases z2
      rw [hp] at y2
      cases y2
/-- a callee's promise at its arguments -/
theorem Tat.call {n : Nat} {G : Fn} {vs : List V} {ar : List Ar} {Q : VK} {E : XK} (h : Tat K ct (RV K ct.ad) W fr F ρ (callG n G ar) σ Q) (S : Rel K ct fr F H σ ρ) (r : RAs K ct.ad F σ vs ar) (hE : ∀ cls d H', W cls d σ H' → E cls d H') : spP K ct.ad n G vs H Q E := by
  obtain ⟨x, ρ', e, q⟩ := h
  unfold callG at e
  split at e
  · cases e
  · rename_i ss es
    split at e
    · rename_i nd0
      obtain ⟨hn, nd⟩ := nd0
      split at e
      · cases e
      · rename_i y ss' eg
        cases e
        refine ⟨by rw [r.len]; exact hn, callFr F H σ ar, F, ss, S.enter r es nd, fun b hb => callFr_P hb, rfl, x, ss', eg, ?_⟩
        cases x with
        | er c pl =>
          intro d F' H' s' R pr
          exact hE _ _ _ (q d F' H' s' (S.leave r es s' R).1 pr)
        | ok rv =>
          intro v F' H' s' R rr
          obtain ⟨z1, z2⟩ := S.leave r es s' R
          refine q v F' H' s' z1 ?_
          cases rv with
          | d d => exact rr
          | c c => obtain ⟨p, ev, fp⟩ := rr; exact ⟨p, ev, z2 p c fp⟩
    · cases e
end PL
end
section
namespace OW
open PySem PySem.Spec PyProof.Rows L2
/-- what the operators of the class at C ask -/
def rOwn2 (C : Addr) (sp : Sp) (E : XK) : R2 := fun x y H Q => ∃ a dx fs b dy gs, x = .ref a ∧ y = .ref b ∧ H a = some (.ins C dx fs) ∧ H b = some (.ins C dy gs) ∧ sp [x, y] H Q E
def rOwn1 (C : Addr) (sp : Sp) (E : XK) : V → Hp → VK → Prop := fun x H Q => ∃ a dx fs, x = .ref a ∧ H a = some (.ins C dx fs) ∧ sp [x] H Q E
section
variable {X : Cx} {CX : CXT} {k : Nat} {C f : Addr} {fd : FuncData} {ps : List Str} {sp : Sp} {E : XK}
theorem inst {pins : List (Addr × Obj)} {σ : L2.St} {H : Hp} {s : Shared} {a dx : Addr} {fs : List (Str × V)} (I : Inv X pins σ H s) (e : H a = some (.ins C dx fs)) : ∃ ox od, PySem.W.InstAt s.heap a ox C od := by
  exact let ⟨_, O, _⟩ := ins_get I.hok e; let ⟨od, J, _⟩ := O.look; ⟨_, od, J⟩
theorem op_bin {op : Operator} {m : Str} (hm : m = PySem.dunder op.info.2) (M : Meth X.K C m f) (hc : PySem.W.selfFirst X.K C = true) (F : FnOk X.prog X.w X.K X.mg X.base CX k f fd ps sp) (hr : Room k X.A) (hb : Binds X.K fd ps []) (hx : Passes CX X E) :
    OpR X (binaryOp op) (rOwn2 C sp E) := by
  intro pn s σ H x y v u Q I rx ry ⟨a, dx, fs, b, dy, gs, ex, ey, ha, hb', q⟩
  subst ex ey
  cases rx; cases ry
  obtain ⟨ox, od, J⟩ := inst I ha
  obtain ⟨oy, od', J'⟩ := inst I hb'
  obtain ⟨m', hF⟩ := I.fr
  subst hm
  refine PySem.W.binop_K hF I.ok.mod.kin J J'.type hc M.at_ M.fn ?_
  refine wpAny_mono (run_fn (us := [.ref a, .ref b]) (vs := [.ref a, .ref b]) F hr hb .nil hx I (.cons rfl (.cons rfl .nil)) q) (fun w s' z => ?_) fun _ _ x => x
  exact let ⟨z1, H1, J1, r1, q1⟩ := z; SlX.cmpback r1 ⟨z1, H1, J1, r1, q1⟩
theorem op_cmp {op : CmpOp} {m : Str} (hm : m = (PySem.cmpInfo op).2.1) (hop : ∀ a b, compareOp op a b = richCompare op a b) (M : Meth X.K C m f) (hn : PySem.W.notFirst X.K C (.ref C) = true) (F : FnOk X.prog X.w X.K X.mg X.base CX k f fd ps sp) (hr : Room k X.A) (hb : Binds X.K fd ps []) (hx : Passes CX X E) :
    OpR X (compareOp op) (rOwn2 C sp E) := by
  intro pn s σ H x y v u Q I rx ry ⟨a, dx, fs, b, dy, gs, ex, ey, ha, hb', q⟩
  subst ex ey
  cases rx; cases ry
  obtain ⟨ox, od, J⟩ := inst I ha
  obtain ⟨oy, od', J'⟩ := inst I hb'
  obtain ⟨m', hF⟩ := I.fr
  subst hm
  rw [hop]
  refine PySem.W.cmp_K (op := op) (tb := .ref C) hr.units0 hF I.ok.mod.kin J J'.type hn M.at_ M.fn ?_
  refine wpAny_mono (run_fn (us := [.ref a, .ref b]) (vs := [.ref a, .ref b]) F hr hb .nil hx I (.cons rfl (.cons rfl .nil)) q) (fun w s' z => ?_) fun _ _ x => x
  exact let ⟨z1, H1, J1, r1, q1⟩ := z; SlX.cmpback r1 ⟨z1, H1, J1, r1, q1⟩
theorem un_neg {m : Str} (hm : m = "__neg__") (M : Meth X.K C m f) (F : FnOk X.prog X.w X.K X.mg X.base CX k f fd ps sp) (hr : Room k X.A) (hb : Binds X.K fd ps []) (hx : Passes CX X E) : UnR X (unaryOp .USub) (rOwn1 C sp E) := by
  intro pn s σ H x v Q I rx ⟨a, dx, fs, ex, ha, q⟩
  subst ex
  cases rx
  obtain ⟨ox, od, J⟩ := inst I ha
  obtain ⟨m', hF⟩ := I.fr
  subst hm
  refine PySem.W.ksp_neg hF I.ok.mod.kin J M.at_ M.fn ?_
  exact run_fn (us := [.ref a]) (vs := [.ref a]) F hr hb .nil hx I (.cons rfl .nil) q
/-- x in o, o of the class at C: its __contains__ gives a bool -/
def rInOwn (C : Addr) (sp : Sp) (E : XK) (neg : Bool) : R2 := fun y x H Q => ∃ a dx fs, x = .ref a ∧ H a = some (.ins C dx fs) ∧ sp [x, y] H (fun z H' => ∃ b, z = .bl b ∧ Q (.bl (if neg then !b else b)) H') E
theorem op_in {m : Str} (hm : m = "__contains__") (M : Meth X.K C m f) (F : FnOk X.prog X.w X.K X.mg X.base CX k f fd ps sp) (hr : Room k X.A) (hb : Binds X.K fd ps []) (hx : Passes CX X E) : OpR X (compareOp .In) (rInOwn C sp E false) := by
  intro pn s σ H y x v u Q I ry rx ⟨a, dx, fs, ex, ha, q⟩
  subst ex
  cases rx
  obtain ⟨ox, od, J⟩ := inst I ha
  obtain ⟨m', hF⟩ := I.fr
  subst hm
  refine PySem.W.in_K hF I.ok.mod.kin J M.at_ M.fn ?_
  refine wpAny_mono (run_fn (us := [.ref a, v]) (vs := [.ref a, y]) F hr hb .nil hx I (.cons rfl (.cons ry .nil)) q) (fun w s' z => ?_) fun _ _ x => x
  obtain ⟨z', H', I', rz, b, eb, qz⟩ := z
  subst eb
  cases (show w = Value.bool b from rz)
  exact wpAny_truthy_bool ⟨.bl b, H', I', rfl, qz⟩
end
end OW
namespace OW
open PySem PySem.Spec PyProof.Rows L2
/-- // by any divisor but 0 below 2 ^ 9000 -/
def CDivA (_ j : Int) : Prop := j ≠ 0 ∧ j.natAbs.log2 < 9000
def wInt1 : List V → Hp → VK → Prop := fun xs H Q => (∃ i, xs = [.int i] ∧ Q (.int i) H) ∨ ∃ k, xs = [.bl k] ∧ Q (.int (if k = true then 1 else 0)) H
def wAbs : List V → Hp → VK → Prop := fun xs H Q => ∃ i, xs = [.int i] ∧ Q (.int (if i < 0 then -i else i)) H
def wMax2 : List V → Hp → VK → Prop := fun xs H Q => ∃ i j, xs = [.int i, .int j] ∧ Q (.int (if j > i then j else i)) H
def wMin2 : List V → Hp → VK → Prop := fun xs H Q => ∃ i j, xs = [.int i, .int j] ∧ Q (.int (if j < i then j else i)) H
def wStrI : List V → Hp → VK → Prop := fun xs H Q => ∃ i, xs = [.int i] ∧ i.natAbs.log2 < 1920 ∧ Q (.str (toString i)) H
def wLen (K : PySem.W.Frag) : List V → Hp → VK → Prop := fun xs H Q => ∃ p ys, xs = [.ref p] ∧ (SqL K H p ys ∨ SqT K H p ys) ∧ Q (.int ys.length) H
def wLenS : List V → Hp → VK → Prop := fun xs H Q => ∃ z, xs = [.str z] ∧ z.length ≤ sizeLine ∧ Q (.int z.length) H
def wAddS : R2 := fun x y H Q => ∃ i j, x = .str i ∧ y = .str j ∧ i.length + j.length ≤ sizeLine ∧ Q (.str (i ++ j)) H
/-- isinstance of the exception that a suite holds (its class has no own __init__) -/
def rIsEE (K : PySem.W.Frag) (a : Addr) (cls : Value) (d : Option Addr) : List V → Hp → VK → Prop := fun xs H Q => ∃ (D : Addr) (c : V) (cv : Value) (b : Bool), xs = [.ref a, c] ∧ cls = .ref D ∧ (d = none ∨ ∃ dx fs, d = some dx ∧ H dx = some (.xd fs)) ∧ ExcC K D ∧ (∀ u, RelV c u → u = cv) ∧ PySem.W.kitOne K (.ref D) cv = some b ∧ Q (.bl b) H
section
variable {X : Cx}
theorem c_int1 : CallR X (.type "int") wInt1 := call_int1
theorem c_max2 (hc : X.calm = true) : CallR X (.builtin "max") wMax2 := call_max2 hc
theorem c_min2 (hc : X.calm = true) : CallR X (.builtin "min") wMin2 := call_min2 hc
theorem c_len : CallR X (.builtin "len") (wLen X.K) := call_len_seq
theorem c_lenS : CallR X (.builtin "len") wLenS := call_len_str
theorem c_isEE {a : Addr} {oe : Obj} {cls : Value} {d : Option Addr} {pn : List (Addr × Obj)} (hz : Zc cls d oe) (hf : ∃ vs, oe.data = .fields vs) : CallR (X.suite a ((a, oe) :: pn)) (.builtin "isinstance") (rIsEE X.K a cls d) := by
  intro pn s σ H xs us Q I r ⟨D, c, cv, b, ex, ec, ed, hE, hc, e, q⟩
  subst ex ec
  rcases ed with ed | ⟨dx, fs, ed, hx⟩
  · subst ed
    exact call_isE hE hz hf pn s σ H _ us Q I r ⟨c, cv, b, rfl, hc, e, q⟩
  · subst ed
    cases r with
    | cons rx rr =>
      cases rr with
      | cons rt rr =>
        cases rr
        cases rx
        have ecv := hc _ rt
        subst ecv
        (obtain ⟨hget, _⟩ := I.pin (a, oe) (List.mem_append.mpr (.inl List.mem_cons_self)))
        obtain ⟨vs, hv⟩ := hf
        have hxo : ObjOk X.prog X.w H s.heap dx (.xd fs) := I.hok dx _ hx
        obtain ⟨mA, ⟨od, _, _, hod, _⟩, _⟩ := hxo
        have J : PySem.W.InstAt s.heap a oe D (some od) := by
          obtain ⟨oc, odd, oda, osl⟩ := oe
          obtain ⟨h1, h2⟩ := hz
          dsimp only at h1 h2 hv
          subst h1 h2 hv
          exact ⟨hget, rfl, rfl, hod⟩
        have hcl : (PySem.W.clsIn X.K D).isSome = true := by
          obtain ⟨cd, hcd, _⟩ := PySem.W.any_some hE.hd
          rw [hcd]
          rfl
        exact PySem.W.kia_one (PySem.W.kitx_exc hcl hE.hg hE.hk hE.hs hE.ha hE.hn hE.ht hE.hm) I.kIn J e (fun z => nomatch z) fun tk => ⟨.bl b, H, I.kept (t' := tk) fun _ _ z => z, rfl, q⟩
end
/-- C(e, ..) in the body of a try: what its __init__ lets out meets the wish at the slots as they stand -/
def tMakeS (C : Addr) (sp : Sp) (dvs : List V) (E : L2.St → XK) (t : TA) : TE := fun σ H Q =>
  t σ H fun vs G => ∀ o d, G o = none → G d = none → d ≠ o →
    sp (.ref o :: (vs ++ dvs)) (upd (upd G d (.own o)) o (.ins C d [])) (fun v G' => v = .non ∧ Q (.ref o) G') (E σ)
section
variable {X : Cx} {CX : CXT} {k : Nat} {C f : Addr} {fd : FuncData} {ps : List Str} {sp : Sp} {ds : List Value} {dvs : List V}
/-- the new object and its dict are the heap's next two places -/
theorem run_makeS {pn : List (Addr × Obj)} {σ : L2.St} {G : Hp} {s : Shared} {Q : VK} {us : List Value} {vs : List V} {E : XK}
    (M : Mk X.K C f) (F : FnOk X.prog X.w X.K X.mg X.base CX k f fd ps sp) (room : Room (k + 1) X.A) (bd : Binds X.K fd ps ds) (vd : Vals dvs ds) (px : PassesAt CX X σ E) (I : Inv X pn σ G s) (rv : Vals vs us)
    (want : ∀ o d, G o = none → G d = none → d ≠ o → sp (.ref o :: (vs ++ dvs)) (upd (upd G d (.own o)) o (.ins C d [])) (fun v G' => v = .non ∧ Q (.ref o) G') E) :
    wpAny (model X.prog X.w) X.A (call (.ref C) us) (EP X pn σ Q) X.xe s := by
  let d := s.heap.objs.size
  let o := d + 1
  have fresh : ∀ a, d ≤ a → G a = none := fun a h => I.hok.fresh h
  have w0 := want o d (fresh o (Nat.le_succ d)) (fresh d (Nat.le_refl d)) (Nat.ne_of_lt (Nat.lt_succ_self d))
  have I1 := I.made (C := C)
  have rall : Vals (V.ref o :: (vs ++ dvs)) (Value.ref o :: (us ++ ds)) := .cons rfl (rv.append vd)
  have len : (Value.ref o :: us ++ ds).length = ps.length := rall.length.symm.trans (F.len _ _ _ _ w0)
  have body := F.run _ X.stack _ _ ⟨Value.ref o :: us, []⟩ (Value.ref o :: (us ++ ds)) _ _ E (room.make C us []) (I1.env0.make C us []) (bd _ (Value.ref o :: us) I1.kIn len) rall w0
  refine wpAny_call (make_map (f := f) I.kIn M.makes M.init (beq_iff_eq.mp M.fn) (codeAny_mono body ?_))
  rintro (er | fl) s1 h1
  · exact px pn _ _ er s1 I1 h1
  · cases fl with
    | ret u => exact let ⟨_, G1, J, ru, ev, q⟩ := I1.after h1; ⟨by subst ev; exact ru, .ref o, G1, J, rfl, q⟩
    | _ => exact h1.elim
theorem pe_makeS {E : L2.St → XK} {x : Str} {p pos : Pos} {e : Expr} {es : List Expr} {t : TA} (M : Mk X.K C f) (F : FnOk X.prog X.w X.K X.mg X.base CX k f fd ps sp) (room : Room (k + 1) X.A) (hg : Gl X x) (hm : X.mg x = some (.ref C)) (bd : Binds X.K fd ps ds) (vd : Vals dvs ds)
    (px : ∀ σ, PassesAt CX X σ (E σ)) (args : PA X (e :: es) t)
    (nd : (x == ("__debug__" : Str)) = false := by decide) (h1 : starEach (e :: es) X.env = (false, eval e X.env) :: starEach es X.env := by rfl) (h2 : (backTo pos (starEach es X.env)).any (·.1) = false := by rfl) :
    PE X (.Call (.Name x p) (e :: es) [] pos) (tMakeS C sp dvs E t) where
  run pn s σ G Q I h := by
    refine wpAny_Call_Name_kw (ld_glob I hg hm ?_ nd)
    refine PySem.W.callWith_K (h₀ := X.base) I.ok.mod.kin M.kp ?_ h1 h2
    refine thn (args.run pos pn s σ G _ I h) ?_
    rintro us s1 ⟨_, _, J, rv, q⟩
    exact ⟨J.kIn, run_makeS M F room bd vd (px σ) J rv q⟩
end
end OW
namespace OW
open PySem PySem.Spec PyProof.Rows L2
def wFmt : V → Hp → VK → Prop := fun x H Q => (∃ y : Str, x = .str y ∧ y.length ≤ sizeLine ∧ Q (.str y) H) ∨ ∃ i : Int, x = .int i ∧ i.natAbs.log2 < 1920 ∧ Q (.str (toString i)) H
end OW
namespace OW
open PySem PySem.Spec PyProof.Rows L2
section
variable {P : Program} {w : World} {K : PySem.W.Frag} {mg : Str → Option Value} {base : Heap} {x qual : Str} {st : Stmt} {dvs : List V} {kws : List (Str × V)} {f : Addr} {fd : FuncData} {N ps : List Str} {k : Nat} {sp : Sp}
/-- what is to be shown of a def's body: W its wish for exceptions -/
def BodyOk (P : Program) (w : World) (K : PySem.W.Frag) (mg : Str → Option Value) (base : Heap) (N : List Str) (qual : Str) (st : Stmt) (f : Addr) (k : Nat) (sp : Sp) (CX : CXT) (no : Bool) : Prop :=
  ∀ (cdv : Value) (A : Around) (outer : List Env) (s : Shared) (H : Hp) (vs : List V) (Q : VK) (E : XK),
    Room k (A.deeper (envOfC qual (defScope st) s.heap.objs.size f cdv)) → sp vs H Q E → ∃ t,
      (if no = true then PSs (cxOf CX P w K mg base N qual (defScope st) f cdv A outer s H E).nox (defBody st) t else PSs (cxOf CX P w K mg base N qual (defScope st) f cdv A outer s H E) (defBody st) t) ∧
      t { nx := fun _ H' => Q .non H', rt := Q } (start N vs) H
end
end OW
namespace OW
open PySem PySem.Spec PyProof.Rows L2
/-! an instance that is walked: its __iter__ gives iter(its tuple) -/
/-- the tuple's iterator at its start -/
def TIt (t it : Addr) : HO := .ext fun h => h.IsTupleIter it t 0
theorem tit_ok {P : Program} {w : World} {H : Hp} {h : Heap} {t it : Addr} (e : h.IsTupleIter it t 0) : ObjOk P w H h it (TIt t it) := by
  obtain ⟨o, ho, z⟩ := id e
  exact ⟨e, ⟨o, ho⟩, fun h1 h2 q k => q.at k⟩
/-- a def whose promise knows how many places the heap has when it is entered -/
structure FnS (P : Program) (w : World) (K : PySem.W.Frag) (mg : Str → Option Value) (base : Heap) (k : Nat) (f : Addr) (fd : FuncData) (ps : List Str) (sp : Nat → Sp) : Prop where
  len : ∀ n vs H Q E, sp n vs H Q E → vs.length = ps.length
  run : ∀ (A : Around) (outer : List Env) (s : Shared) (H : Hp) (args : Args) (us : List Value) (vs : List V) (Q : VK) (E : XK), Room k A → Env0 P w K mg base A outer s H → BindsTo s fd args (ps.zip us) → Vals vs us →
    sp s.heap.objs.size vs H Q E → codeAny (model P w) A (.call (.ref f) args) (CR CX0 outer P w H s Q E) s
theorem okS {P : Program} {w : World} {K : PySem.W.Frag} {mg : Str → Option Value} {base : Heap} {x qual : Str} {st : Stmt} {f : Addr} {fd : FuncData} {N ps : List Str} {k : Nat} {sp : Nat → Sp} (F : L2.Fun K x qual st f fd) (S : FnScope N ps (defScope st))
    (len : ∀ n vs H Q E, sp n vs H Q E → vs.length = ps.length)
    (body : ∀ (cdv : Value) (A : Around) (outer : List Env) (s : Shared) (H : Hp) (vs : List V) (Q : VK) (E : XK), Room k (A.deeper (envOfC qual (defScope st) s.heap.objs.size f cdv)) → sp s.heap.objs.size vs H Q E →
      ∃ t, PSs (cxOf CX0 P w K mg base N qual (defScope st) f cdv A outer s H E).nox (defBody st) t ∧ t { nx := fun _ G => Q .non G, rt := Q } (start N vs) H) : FnS P w K mg base (k + 1) f fd ps sp := by
  obtain ⟨oc, od, kV, doc, pm, an, cdv, ct, osl, rfl, look, code⟩ := F.ex
  refine ⟨len, fun A outer s H args us vs Q E room env0 bnd rv want => ?_⟩
  have vl := len _ _ _ _ _ want
  have KX : K.In s.heap := env0.mod.kin.keeps fun b o q => (env0.bs b o q).1
  have free : s.heap.NoLimit := env0.mod.nolimit.keeps fun b o q => (env0.bs b o q).1
  have kinds : ∀ y ∈ ps.zip us, (defScope st).names.lookup y.1 = some .local ∨ ((defScope st).names.lookup y.1 = some .cell ∧ ((cellsFrom (s.heap.objs.size + 1) (defScope st).names []).lookup y.1).isSome = true) := by
    rintro ⟨n, v⟩ hy
    rcases S.par n (List.of_mem_zip hy).1 with z | z
    · exact .inl z
    · exact .inr ⟨z, PySem.W.cellsFrom_some _ _ _ (.inl z)⟩
  refine codeAny_call_function room.depth (KX _ _ look) rfl S.co S.gen rfl (PySem.W.codeRec_of KX code) (bnd _ _ _ _ ?_)
  refine wpAny_newFunctionEnv_cells S.kind kinds fun env he s1 inn => ?_
  subst he
  refine ⟨free.keeps inn.toInCall.keep, codeAny_func ?_⟩
  obtain ⟨t, ht, q⟩ := body cdv A outer s H vs Q E (room.deeper _) want
  have J : Inv (cxOf CX0 P w K mg base N qual (defScope st) f cdv A outer s H E) [] (start N vs) H s1 := inv_start S room.hd env0 vl rv inn
  refine wpAny_mono (ht.nox.run [] s1 (start N vs) H _ J q) (fun fl s2 out => ?_) fun e s2 out => out
  have fin : ∀ {τ : L2.St} {G : Hp} {v : V} {u : Value}, Inv (cxOf CX0 P w K mg base N qual (defScope st) f cdv A outer s H E) [] τ G s2 → RelV v u → Q v G → CE outer P w H s Q u s2 :=
    fun {τ G v u} I2 r q2 => ⟨v, G, I2.os, I2.bare, I2.base, I2.hok, r, q2⟩
  cases fl with
  | ret u =>
    obtain ⟨v, τ, G, I2, r, q2⟩ := out
    exact fin I2 r q2
  | next =>
    obtain ⟨τ, G, I2, q2⟩ := out
    exact fin (v := V.non) (u := Value.none) I2 rfl q2
  | brk =>
    obtain ⟨_, _, _, z⟩ := out
    exact z.elim
  | cont =>
    obtain ⟨_, _, _, z⟩ := out
    exact z.elim
def wIterT (K : PySem.W.Frag) (n : Nat) : List V → Hp → VK → Prop := fun xs H Q => ∃ (l : Addr) (zs : List V), xs = [.ref l] ∧ SqT K H l zs ∧ ∀ it, H it = none → n ≤ it → Q (.ref it) (upd H it (TIt l it))
theorem c_iterT {X : Cx} : CallR X (.builtin "iter") (wIterT X.K X.s_0.heap.objs.size) := by
  rintro pn s σ H xs us Q I r ⟨l, zs, rfl, hq, q⟩
  (obtain ⟨u, rfl, ru⟩ := vals1 r)
  cases ru
  obtain ⟨its, rv, pl, hz⟩ := I.tuple hq
  (refine Calls.call_function_entry (by decide +kernel) (by decide +kernel) PySem.W.kdk_entry_iter (PySem.W.kdk_args_iter _) ?_)
  unfold Builtin.«iter»
  (refine wpAny_bind (m := someArgs "iter" 1 2 _) (wpAny_of_eq (a := [Value.ref l]) (by first | rfl | kernel_rfl!) ?_))
  change wpAny _ _ (pyIter (.ref l) >>= _) _ _ _
  refine wpAny_bind (wpAny_pyIter_tuple (show s.heap.IsTuple l its.toArray from pl) ?_)
  (refine wpAny_pure ⟨_, rfl, ?_⟩)
  exact ⟨.ref s.heap.objs.size, _, I.laid (t' := s.toks) (fun b u e => Heap.get?_push_of_some _ e) (Nat.le_refl _) (tit_ok ⟨_, Heap.get?_push_size _ rfl, rfl, rfl⟩), rfl, q _ (I.hok.fresh (Nat.le_refl _)) I.sz⟩
def iOwn (K : PySem.W.Frag) (C : Addr) (sp : Nat → Sp) (ta : TE) : TI := fun σ H R => ta σ H fun x G => ∃ a dx fs, x = .ref a ∧ G a = some (.ins C dx fs) ∧
  ∀ n, sp n [.ref a] G (fun v G2 => ∃ it t, v = .ref it ∧ n ≤ it ∧ G it = none ∧ G2 = upd G it (TIt t it) ∧ R (Itt K t) G) E0
section
variable {X : Cx} {k : Nat} {C f : Addr} {fd : FuncData} {ps : List Str} {sp : Nat → Sp} {e tg : Expr} {ta : TE}
end
/-! max(xs, default=d), sorted(d, reverse=True), min and max of three -/
def maxL (d : Int) : List Int → Int
  | [] => d
  | n :: ns => ns.foldl max n
section
variable {X : Cx}
theorem alike_ints (ns : List Int) : PySem.W.AlikeAll (ns.map PyData.int) := by
  refine ⟨fun x hx y hy => ?_, fun x hx => ?_⟩
  · obtain ⟨i, _, rfl⟩ := List.mem_map.mp hx
    obtain ⟨j, _, rfl⟩ := List.mem_map.mp hy
    rfl
  · obtain ⟨i, _, rfl⟩ := List.mem_map.mp hx
    exact fun z => nomatch z
theorem depth_ints : ∀ ns : List Int, PyData.depthAll (ns.map PyData.int) ≤ 1
  | [] => by decide
  | n :: ns => by
    show max (PyData.int n).depth (PyData.depthAll (ns.map PyData.int)) ≤ 1
    exact Nat.max_le.mpr ⟨by show PyData.depth (.int n) ≤ 1; unfold PyData.depth; decide, depth_ints ns⟩
def wMaxD (K : PySem.W.Frag) : List V → List V → Hp → VK → Prop := fun vs zs H Q => ∃ (a : Addr) (ns : List Int) (d : Int), vs = [.ref a] ∧ zs = [.int d] ∧ SqL K H a (ns.map V.int) ∧ Q (.int (maxL d ns)) H
theorem c_maxD (hc : X.calm = true) (hu : X.A.units + 64 < cLine) : CallRK X (.builtin "max") ["default"] (wMaxD X.K) := by
  rintro pn s σ H vs zs us ws Q I r rz ⟨a, ns, d, rfl, rfl, hs, q⟩
  obtain rfl := Vals.ref1 r
  (obtain ⟨w1, rfl, e1⟩ := vals1 rz)
  obtain ⟨tk1, rfl⟩ := e1
  (obtain ⟨its, rv, hl, hz⟩ := I.list hs)
  have hi := rv.ints
  have hd := depth_ints ns
  refine PySem.W.max_list_default (I.ok.hd hc) hl.isList (xs := ns.map PyData.int) (as := []) (by simpa using hi.reads s.heap) (alike_ints ns) (by omega) (fun e h' tk kp => ?_) (fun y ys i v h' tk bs e e2 rd kp => ?_)
  · have en : ns = [] := by simpa using e
    subst en
    exact ⟨.int d, H, I.kept kp, ⟨_, rfl⟩, q⟩
  · cases ns with
    | nil => cases e
    | cons n ns =>
      rw [List.map_cons] at e
      cases e
      rw [PySem.W.maxD_ints] at rd
      cases rd
      exact ⟨.int _, H, I.kept kp, ⟨_, rfl⟩, q⟩
def wMin3 : List V → Hp → VK → Prop := fun xs H Q => ∃ i j k : Int, xs = [.int i, .int j, .int k] ∧ Q (.int (min i (min j k))) H
def wMax3 : List V → Hp → VK → Prop := fun xs H Q => ∃ i j k : Int, xs = [.int i, .int j, .int k] ∧ Q (.int (max i (max j k))) H
def wSortDR : List V → List V → Hp → VK → Prop := fun vs zs H Q => ∃ (a : Addr) (kvs : List (Key × V)) (ks : List Int), vs = [.ref a] ∧ zs = [.bl true] ∧ Rd H a (.dK kvs) ∧ kvs.map (·.1) = ks.map Sum.inl ∧
  ∀ (ys : List Int) (p : Addr), ys.Perm ks → ys.Pairwise (· ≥ ·) → H p = none → Q (.ref p) (upd H p (.lst (ys.map V.int)))
theorem c_sortDR (hc : X.calm = true) : CallRK X (.builtin "sorted") ["reverse"] wSortDR := by
  rintro pn s σ H vs zs us ws Q I r rz ⟨a, kvs, ks, rfl, rfl, hd, hk, q⟩
  obtain rfl := Vals.ref1 r
  (obtain ⟨w1, rfl, e1⟩ := vals1 rz)
  (obtain rfl : w1 = Value.bool true := e1)
  (obtain ⟨z, lo, vs, rel, dd⟩ := dk_rd I.hok hd)
  obtain ⟨ep, at_⟩ := dd.dictAt
  have keys : vs.map (·.1) = ks.map Sum.inl := rel.keys.symm.trans hk
  have same : vs.length = ks.length := by simpa using congrArg List.length keys
  have small : vs.length ≤ sizeLine := by rw [← rel.length]; exact z
  refine PyProof.Rows.call_function_entry_kw PyProof.Rows.kind_sorted PyProof.Rows.plain_sorted PyProof.Rows.entry_sorted (PyProof.Rows.args_sorted_rev _ _) ?_
  unfold Builtin.«sorted»
  (refine wpAny_bind (m := checkCount "sorted" 1 1 _) (wpAny_pure ?_))
  refine wpAny_bind (PySem.W.kdu_collect (A := X.A.in1) (PySem.W.kdl_dict (knd := mixKind X.prog X.w) (kvs := vs) (ep := ep) lo) (I.ok.hd hc) at_ small fun h' tk acc kp hacc => ?_)
  have alen : acc.toList.length = ks.length := by rw [Array.length_toList, hacc.1, same]
  have arei : IntsAre acc.toList ks := ints_each alen fun j v e => by
    obtain ⟨kk, x, e1, e2⟩ := hacc.2 j v (by rw [← Array.getElem?_toList]; exact e)
    have e3 : (vs.map (·.1))[j]? = some kk := by rw [List.getElem?_map, e1]; rfl
    rw [keys, List.getElem?_map] at e3
    cases e4 : ks[j]? with
    | none =>
      rw [e4] at e3
      exact nomatch e3
    | some y =>
      rw [e4] at e3
      have e5 : Sum.inl y = kk := Option.some.inj e3
      subst e5
      rcases keyIs_shape (show keyIs (Sum.inl y) v = true from e2) with ⟨i, t, e6, e7⟩ | ⟨i, t, e6, e7⟩
      · cases e6
        exact ⟨y, t, rfl, e7⟩
      · cases e6
  have I1 : Inv X pn σ H { s with heap := h', toks := tk } := I.kept kp
  have fits : acc.toList.length ≤ sizeLine := by rw [alen, ← same]; exact small
  refine wpAny_bind (wpAny_newList ?_ fits)
  have there : (h'.push (seqObj "list" acc.toList.toArray 0)).get? h'.objs.size = some (seqObj "list" acc.toList.toArray 0) := Heap.get?_push_size _ rfl
  change wpAny _ _ _ _ _ { s with heap := h'.push (seqObj "list" acc.toList.toArray 0), toks := tk }
  refine wpAny_bind (wpAny_holding (PyProof.Rows.wpAny_call_entry_kw PyProof.Rows.slot_list_sort ⟨_, there, rfl⟩ PyProof.Rows.entry_list_sort ?_ (PyProof.Rows.args_list_sort_rev _ _)))
  refine SrtR.list_sort_ordR (s := { s with heap := h'.push (seqObj "list" acc.toList.toArray 0), toks := tk }) (b := true) SrtO.swo_int there fits (fun h2 => SrtO.ints_sortable arei h2) fun out o1 o2 => ⟨_, rfl, ?_⟩
  obtain ⟨ys, y1, y2, y3⟩ := SrtR.ints_outR (b := true) arei o1 o2
  obtain ⟨e', he'⟩ := PyProof.Rows.sortedHeap_at (vs := acc.toList) (out := out.toArray.reverse) there
  have hlen : (ys.map V.int).length ≤ sizeLine := by rw [List.length_map, y2.length_eq, ← alen]; exact fits
  have ok2 : ObjOk X.prog X.w (upd H h'.objs.size (.lst (ys.map V.int))) (PyProof.Rows.sortedHeap (h'.push (seqObj "list" acc.toList.toArray 0)) h'.objs.size acc.toList out.toArray.reverse) h'.objs.size (.lst (ys.map V.int)) :=
    ⟨hlen, out.toArray.reverse.toList, e', vals_of_ints y1, by rw [Array.toArray_toList]; exact he'⟩
  have got := q ys _ y2 y3 (I1.hok.fresh (Nat.le_refl _))
  refine wpAny_pure ⟨_, rfl, .ref h'.objs.size, _, I1.laid (t' := tk) (fun b u e => ?_) (Nat.le_refl _) ok2, rfl, got⟩
  have lt : b < h'.objs.size := Heap.lt_size e
  show (PyProof.Rows.sortedHeap _ _ _ _).get? b = some u
  rw [PyProof.Rows.sortedHeap_old (Nat.ne_of_lt lt) (by rw [size_push']; exact Nat.lt_succ_of_lt lt)]
  (exact Heap.get?_push_of_some _ e)
end
end OW
namespace OW
open PySem PySem.Spec PyProof.Rows L2
section
variable {X : Cx}
def wTupL (K : PySem.W.Frag) : List V → Hp → VK → Prop := fun xs H Q => ∃ (p : Addr) (ys : List V), xs = [.ref p] ∧ SqL K H p ys ∧ ∀ l, H l = none → Q (.ref l) (upd H l (.tup ys))
def wLstL (K : PySem.W.Frag) : List V → Hp → VK → Prop := fun xs H Q => ∃ (p : Addr) (ys : List V), xs = [.ref p] ∧ SqL K H p ys ∧ ∀ l, H l = none → Q (.ref l) (upd H l (.lst ys))
def wLstT (K : PySem.W.Frag) : List V → Hp → VK → Prop := fun xs H Q => ∃ (p : Addr) (ys : List V), xs = [.ref p] ∧ SqT K H p ys ∧ ∀ l, H l = none → Q (.ref l) (upd H l (.lst ys))
end
end OW
namespace OW
open PySem PySem.Spec PyProof.Rows L2
def wIns : V → List V → Hp → VK → Prop := fun x vs H Q => ∃ (l : Addr) (xs : List V) (i : Int) (y : V), x = .ref l ∧ vs = [.int i, y] ∧ H l = some (.lst xs) ∧ xs.length < sizeLine ∧ 0 ≤ i ∧ i < 2 ^ 63 ∧ Q .non (upd H l (.lst (xs.take i.toNat ++ [y] ++ xs.drop i.toNat)))
theorem m_ins {X : Cx} : MtR X "list.insert" wIns := mt_insert
end OW
namespace OW
open PySem PySem.Spec PyProof.Rows L2
/-- a op b op' c op'' d as a test -/
def tChain3 (r r' r'' : R2) (ta tb tc td : TE) : TT := fun σ H QB => ta σ H fun x G => tb σ G fun y G1 => r x y G1 fun z G2 => ∃ k, z = .bl k ∧
  (if k = true then tc σ G2 fun u G3 => r' y u G3 fun z2 G4 => ∃ k2, z2 = .bl k2 ∧
    (if k2 = true then td σ G4 fun v G5 => r'' u v G5 fun z3 G6 => ∃ k3, z3 = .bl k3 ∧ QB k3 G6 else QB false G4) else QB false G2)
section
variable {X : Cx} {a b c d : Expr} {ta tb tc td : TE} {pos : Pos} {op op' op'' : CmpOp} {r r' r'' : R2}
theorem pt_chain3 (h1 : OpR X (compareOp op) r) (h2 : OpR X (compareOp op') r') (h3 : OpR X (compareOp op'') r'') (ha : PE X a ta) (hb : PE X b tb) (hc : PE X c tc) (hd : PE X d td)
    (hm : lastMarks [op, op', op''] [b, c, d] = false := by with_unfolding_all rfl) : PT X (.Compare a [op, op', op''] [b, c, d] pos) (tChain3 r r' r'' ta tb tc td) := by
  refine ⟨fun pn s σ H Q I h => ?_⟩
  refine isTrue_chain (thn (ha.run pn s σ H _ I h) fun v s1 ⟨x, G1, I1, r1, q1⟩ => test_link (thn (hb.run pn s1 σ G1 _ I1 q1) fun u s2 ⟨y, G2, I2, r2, q2⟩ =>
    thn (h1 pn s2 σ G2 x y v u _ I2 r1 r2 q2) fun e1 s3 ⟨z, G3, I3, r3, k, e, q3⟩ => ?_)) hm
  subst e
  cases r3
  refine wpAny_truthy_bool ?_
  cases k with
  | false => exact ite_ff ⟨G3, I3, q3⟩
  | true =>
    refine ite_tt (test_link (thn (hc.run pn s3 σ G3 _ I3 q3) fun v2 s4 ⟨y2, G4, I4, r4, q4⟩ => thn (h2 pn s4 σ G4 y y2 u v2 _ I4 r2 r4 q4) fun e2 s5 ⟨z2, G5, I5, r5, k2, e3, q5⟩ => ?_))
    subst e3
    cases r5
    refine wpAny_truthy_bool ?_
    cases k2 with
    | false => exact ite_ff ⟨G5, I5, q5⟩
    | true =>
      refine ite_tt (test_last (thn (hd.run pn s5 σ G5 _ I5 q5) fun v3 s6 ⟨y3, G6, I6, r6, q6⟩ => thn (h3 pn s6 σ G6 y2 y3 v2 v3 _ I6 r4 r6 q6) fun e4 s7 ⟨z3, G7, I7, r7, k3, e5, q7⟩ => ?_))
      subst e5
      cases r7
      exact wpAny_truthy_bool ⟨G7, I7, q7⟩
end
end OW
namespace OW
open PySem PySem.Spec PyProof.Rows L2
def wIsN : R2 := fun x y H Q => y = .non ∧ Q (.bl (decide (x = .non))) H
def wNotN : R2 := fun x y H Q => y = .non ∧ Q (.bl (!decide (x = .non))) H
end OW
namespace OW
open PySem PySem.Spec PyProof.Rows L2
end OW
namespace OW
open PySem PySem.Spec PyProof.Rows L2
/-- C(e, ..), C a local name -/
def tMakeL (i : Nat) (C : Addr) (sp : Sp) (E : XK) (t : TA) : TE := fun σ H Q => σ[i]? = some (some (.ref C)) ∧ tMake C sp [] E t σ H Q
section
variable {X : Cx} {CX : CXT} {k : Nat} {C f : Addr} {fd : FuncData} {ps : List Str} {sp : Sp} {E : XK} {K : PySem.W.Frag}
end
end OW
end
section
namespace PL
open PySem PySem.Spec PyProof.Rows L2
variable {K : PySem.W.Frag} {ad : Cl → Addr} {ct : CT}
variable {fr : Fr} {F F' H H' : Hp} {σ : L2.St} {ρ : List Sl} {W : WX}
/-! ### arguments -/
section
variable {X : Cx}
theorem pq_n : PA X [] (TAr K ct W (evAs [])) := pa_nil.imp fun σ H Q h => by
  obtain ⟨fr, F, ρ, S, h⟩ := h
  exact Tat.ok (a := ([] : List Ar)) h [] F H (Same.refl _) S RAs.nil
theorem RAs.mono {F F' : Hp} {σ : L2.St} (s : Same F F') : ∀ {vs : List V} {as : List Ar}, RAs K ct.ad F σ vs as → RAs K ct.ad F' σ vs as
  | _, _, .nil => .nil
  | _, .d _ :: _, .cons h r => .cons (Rp.mono s h) (RAs.mono s r)
  | _, .c _ :: _, .cons h r => .cons h (RAs.mono s r)
theorem pq_c {e : Expr} {es : List Expr} {m : Ev} {r : List AE} (he : PE X e (TP K ct W m)) (hr : PA X es (TAr K ct W (evAs r)))
    (hs : starEach (e :: es) X.env = (false, eval e X.env) :: starEach es X.env := by rfl) : PA X (e :: es) (TAr K ct W (evAs (.e m :: r))) := (pa_cons he hr hs).imp fun σ H Q h => by
  obtain ⟨fr, F, ρ, S, h⟩ := h
  refine Tat.dat h S fun F1 H1 ρ1 v d s1 S1 r1 h => ?_
  refine Tat.bnd h S1 fun F2 H2 ρ2 vs ds s2 S2 r2 h => ?_
  exact Tat.ok (a := Ar.d d :: ds) h _ F2 H2 (Same.refl _) S2 (RAs.cons (r1.mono s2) r2)
theorem pq_k {e : Expr} {es : List Expr} (j : Nat) {r : List AE} (he : PE X e (tVar j)) (hr : PA X es (TAr K ct W (evAs r)))
    (hs : starEach (e :: es) X.env = (false, eval e X.env) :: starEach es X.env := by rfl) : PA X (e :: es) (TAr K ct W (evAs (.c j :: r))) := (pa_cons he hr hs).imp fun σ H Q h => by
  obtain ⟨fr, F, ρ, S, r0, ρ0, e0, q0⟩ := h
  have e1 : (match ρ[j]? with | some (.cel _ _) => bnd (evAs r) (fun as => pur (.c j :: as)) ρ | _ => none) = some (r0, ρ0) := e0
  split at e1
  · rename_i k c hc
    obtain ⟨p, o, h1, h2⟩ := S.cell_at hc
    refine ⟨_, h1, ?_⟩
    have h : Tat K ct (RA K ct.ad) W fr F ρ (bnd (evAs r) (fun as => pur (.c j :: as))) σ Q := ⟨r0, ρ0, e1, q0⟩
    refine Tat.bnd h S fun F2 H2 ρ2 vs ds s2 S2 r2 h => ?_
    exact Tat.ok (a := Ar.c j :: ds) h _ F2 H2 (Same.refl _) S2 (RAs.cons h1 r2)
  · cases e1
end
/-- a call whose arguments stand -/
def evCall0 (n : Nat) (G : Fn) (as : List AE) (ds : List D := []) : Ev := bnd (evAs as) fun ar => noEr (callG n G (ar ++ ds.map .d))
theorem Tat.noEr {α β : Type} {R : Rel3 β α} {m : M α} {Q : β → Hp → Prop} (h : Tat K ct R W fr F ρ (PL.noEr m) σ Q) : Tat K ct R (fun _ _ _ _ => False) fr F ρ m σ Q := by
  obtain ⟨r, ρ', e, q⟩ := h
  unfold PL.noEr at e
  split at e
  · rename_i a ρ1 h1
    cases e
    exact ⟨_, _, h1, q⟩
  · cases e
theorem spP.no {n : Nat} {G : Fn} {vs : List V} {H : Hp} {Q : VK} {E : XK} (h : spP K ad n (noEr G) vs H Q E) : spP K ad n G vs H Q (fun _ _ _ => False) := by
  obtain ⟨hn, fr, F, ss, S, hP, hF, t⟩ := h
  exact ⟨hn, fr, F, ss, S, hP, hF, t.noEr⟩
/-- a def that raises nothing -/
def run0 (k : Nat) (s : M Fl) : Fn := noEr (runB k s)
theorem ok0 {P : Program} {w : World} {mg : Str → Option Value} {base : Heap} {x qual : Str} {st : Stmt} {f : Addr} {fd : FuncData} {N ps : List Str} {lv : Nat} {n k : Nat} {s : M Fl} (Fd : L2.Fun K x qual st f fd) (S : FnScope N ps (defScope st)) (hp : ps.length = n) (hN : N.length = n + k)
    (hb : ∀ (cdv : Value) (A : Around) (outer : List Env) (s0 : Shared) (H : Hp) (E : XK), Room lv (A.deeper (envOfC qual (defScope st) s0.heap.objs.size f cdv)) →
      PSs (cxOf CX0 P w K mg base N qual (defScope st) f cdv A outer s0 H E).nox (defBody st) (TSt K (cx ad) (fun _ _ _ _ => False) s)) : FnOk P w K mg base CX0 (lv + 1) f fd ps (spP K ad n (run0 k s)) :=
  Fd.ok S (fun vs H Q E h => by rw [hp]; exact h.1) fun cdv A outer s0 H vs Q E hr h => ⟨_, hb cdv A outer s0 H E hr, body_end (E := fun _ _ _ => False) hN h.no⟩
inductive Dfs : List V → List D → Prop
  | nil : Dfs [] []
  | cons {v : V} {d : D} {vs : List V} {ds : List D} (h : d.toV = some v) (r : Dfs vs ds) : Dfs (v :: vs) (d :: ds)
theorem RAs.dfs {F : Hp} {σ : L2.St} {dvs : List V} {ds : List D} (hd : Dfs dvs ds) : ∀ {vs : List V} {as : List Ar}, RAs K ct.ad F σ vs as → RAs K ct.ad F σ (vs ++ dvs) (as ++ ds.map .d)
  | _, _, .nil => by
    induction hd with
    | nil => exact .nil
    | cons h _ ih => exact .cons (D.toV_rp h) ih
  | _, _, .cons h r => .cons h (RAs.dfs hd r)
section
variable {X : Cx} {CX : CXT} {k : Nat} {f : Addr} {fd : FuncData} {ps : List Str} {x : Str} {p pos apos : Pos} {e o : Expr} {es : List Expr} {n : Nat} {G : Fn} {as : List AE} {dvs : List V} {dds : List D} {ds : List Value}
/-- what may be raised meets the wish -/
theorem pp_callS (Fn : FnOk X.prog X.w X.K X.mg X.base (L2.CX X.prog X.w) k f fd ps (spP K ct.ad n G)) (tk : Takes X W) (hr : Room k X.A) (hg : Gl X x) (hm : X.mg x = some (.ref f)) (hk : PySem.W.keepIn X.K (.ref f) = true) (hb : Binds X.K fd ps [])
    (ha : PA X (e :: es) (TAr K ct W (evAs as))) (hdb : (x == ("__debug__" : Str)) = false := by decide) (he : starEach (e :: es) X.env = (false, eval e X.env) :: starEach es X.env := by rfl) (hpl : (backTo pos (starEach es X.env)).any (·.1) = false := by rfl) :
    PE X (.Call (.Name x p) (e :: es) [] pos) (TP K ct W (evCall n G as)) := (pe_callS Fn hr hg hm hk hb (fun σ => passAt tk σ) ha hdb he hpl).imp fun σ H Q h => by
  obtain ⟨fr, F, ρ, S, h⟩ := h
  refine Tat.bnd h S fun F1 H1 ρ1 vs ar s1 S1 r1 h => ?_
  rw [List.map_nil, List.append_nil] at h
  exact Tat.call h S1 r1 fun _ _ _ z => z
theorem pp_call (Fn : FnOk X.prog X.w X.K X.mg X.base CX k f fd ps (spP K ct.ad n G)) (hr : Room k X.A) (hg : Gl X x) (hm : X.mg x = some (.ref f)) (hk : PySem.W.keepIn X.K (.ref f) = true) (hb : Binds X.K fd ps ds) (hd : Vals dvs ds) (hx : Passes CX X E0)
    (ha : PA X (e :: es) (TAr K ct W (evAs as))) (hdf : Dfs dvs dds) (hdb : (x == ("__debug__" : Str)) = false := by decide) (he : starEach (e :: es) X.env = (false, eval e X.env) :: starEach es X.env := by rfl) (hpl : (backTo pos (starEach es X.env)).any (·.1) = false := by rfl) :
    PE X (.Call (.Name x p) (e :: es) [] pos) (TP K ct W (evCall0 n G as dds)) := (pe_call Fn hr hg hm hk hb hd hx ha hdb he hpl).imp fun σ H Q h => by
  obtain ⟨fr, F, ρ, S, h⟩ := h
  refine Tat.bnd h S fun F1 H1 ρ1 vs ar s1 S1 r1 h => ?_
  exact Tat.call (W := fun _ _ _ _ => False) h.noEr S1 (RAs.dfs hdf r1) fun _ _ _ z => z
theorem pp_call00 (Fn : FnOk X.prog X.w X.K X.mg X.base CX k f fd ps (spP K ct.ad n G)) (hr : Room k X.A) (hg : Gl X x) (hm : X.mg x = some (.ref f)) (hk : PySem.W.keepIn X.K (.ref f) = true) (hb : Binds X.K fd ps ds) (hd : Vals dvs ds) (hx : Passes CX X E0)
    (hdf : Dfs dvs dds) (hdb : (x == ("__debug__" : Str)) = false := by decide) :
    PE X (.Call (.Name x p) [] [] pos) (TP K ct W (evCall0 n G [] dds)) := (pe_call0 Fn hr hg hm hk hb hd hx hdb).imp fun σ H Q h => by
  obtain ⟨fr, F, ρ, S, h⟩ := h
  exact Tat.call (W := fun _ _ _ _ => False) (ar := dds.map .d) (Tat.noEr h) S (by simpa using RAs.dfs (K := K) (ct := ct) hdf RAs.nil) fun _ _ _ z => z
/-! methods of data objects -/
def evMeth (n : Nat) (G : Fn) (c : Cl) (o : Ev) (as : List AE) : Ev := bnd (dat o) fun d => match d with
  | .obj c' xs => if c' = c then bnd (evAs as) fun ar => noEr (callG n G (.d (.obj c' xs) :: ar)) else fai
  | _ => fai
def evMethS (n : Nat) (G : Fn) (c : Cl) (o : Ev) (as : List AE) : Ev := bnd (dat o) fun d => match d with
  | .obj c' xs => if c' = c then bnd (evAs as) fun ar => callG n G (.d (.obj c' xs) :: ar) else fai
  | _ => fai
theorem Tat.obj {δ γ : Type} {R' : Rel3 δ γ} {m : Ev} {c : Cl} {k : List D → M γ} {Q : δ → Hp → Prop} {Q1 : V → Hp → Prop}
    (h : Tat K ct R' W fr F ρ (PL.bnd (PL.dat m) fun d => match d with | .obj c' xs => if c' = c then k xs else fai | _ => fai) σ Q) (S : Rel K ct fr F H σ ρ)
    (hq : ∀ F1 H1 ρ1 a dx vs xs, Same F F1 → Rel K ct fr F1 H1 σ ρ1 → F1 a = some (.ins (ct.ad c) dx (c.fn.zip vs)) → c.fn.length = vs.length → Rps K ct.ad F1 vs xs → Tat K ct R' W fr F1 ρ1 (k xs) σ Q → Q1 (.ref a) H1) : T K ct (RV K ct.ad) W m σ H Q1 := by
  refine Tat.dat h S fun F1 H1 ρ1 v d s1 S1 r1 h => ?_
  cases d with
  | obj c' xs =>
    cases r1 with
    | @obj a dx _ vs _ h1 l1 k1 =>
      have h9 : Tat K ct R' W fr F1 ρ1 (if c' = c then k xs else fai) σ Q := h
      clear h
      split at h9
      · rename_i ec
        subst ec
        exact hq F1 H1 ρ1 a dx vs xs s1 S1 h1 l1 k1 h9
      · obtain ⟨_, _, e, _⟩ := h9; cases e
  | _ => obtain ⟨_, _, e, _⟩ := h; cases e
theorem dcont {α : Type} {c : Cl} {k : Cl → List D → M α} : (fun d : D => match d with | .obj c' xs => if c' = c then k c' xs else fai | _ => (fai : M α)) = fun d => match d with | .obj c' xs => if c' = c then k c xs else fai | _ => fai := by
  funext d
  cases d <;> try rfl
  rename_i c' xs
  by_cases e : c' = c
  · subst e; rfl
  · simp [e]
/-- how a call of a method runs, with these words -/
abbrev CallsM (X : Cx) (o : Expr) (m : Str) (apos pos : Pos) (pl : Sem Bool) (ws : List Expr) : Prop :=
  eval (.Call (.Attribute o m apos) ws [] pos) X.env = eval o X.env >>= fun y => standAt apos.atName >>= fun _ => holding [y] (getMethod y m pl) >>= fun z =>
    callWith pos z.1 z.2 (backTo pos (starEach ws X.env)) (backToKw pos (keywordEach [] X.env))
theorem pp_meth {m : Str} {pl : Sem Bool} {fo : Ev} (c : Cl) (he : PE X o (TP K ct W fo)) (cl : Cls X.K (ct.ad c)) (hm : Meth X.K (ct.ad c) m f) (Fn : FnOk X.prog X.w X.K X.mg X.base CX k f fd ps (spP K ct.ad n G)) (hr : Room k X.A) (hb : Binds X.K fd ps []) (hx : Passes CX X E0)
    (ha : PA X (e :: es) (TAr K ct W (evAs as))) (nm : c.fn.findIdx? (fun k => m == k) = none := by decide)
    (hst : starEach (e :: es) X.env = (false, eval e X.env) :: starEach es X.env := by rfl) (hpl : (backTo pos (starEach es X.env)).any (·.1) = false := by rfl)
    (ht : CallsM X o m apos pos pl (e :: es) := by rfl) :
    PE X (.Call (.Attribute o m apos) (e :: es) [] pos) (TP K ct W (evMeth n G c fo as)) := (pe_meth he cl hm Fn hr hb .nil hx ha hst hpl ht).imp fun σ H Q h => by
  obtain ⟨fr, F, ρ, S, h⟩ := h
  unfold evMeth at h
  rw [dcont (k := fun c xs => bnd (evAs as) fun ar => noEr (callG n G (.d (.obj c xs) :: ar)))] at h
  refine Tat.obj h S fun F1 H1 ρ1 a dx vs xs s1 S1 h1 l1 k1 h => ?_
  refine ⟨a, dx, _, rfl, S1.fh _ _ h1, look_no nm, ?_⟩
  refine Tat.bnd h S1 fun F2 H2 ρ2 us ar s2 S2 r2 h => ?_
  rw [List.append_nil]
  exact Tat.call (W := fun _ _ _ _ => False) h.noEr S2 (RAs.cons ((Rp.obj h1 l1 k1).mono s2) r2) fun _ _ _ z => z
/-- o.m(e, ..), what it raises meets the wish at the slots as they stand -/
def tMethE (C : Addr) (m : Str) (sp : Sp) (E : L2.St → XK) (ta : TE) (t : TA) : TE := fun σ H Q => ta σ H fun x H1 => ∃ a dx fs, x = .ref a ∧ H1 a = some (.ins C dx fs) ∧ fs.lookup m = none ∧ t σ H1 fun vs H2 => sp (x :: vs) H2 Q (E σ)
/-! properties -/
theorem pp_prop {m : Str} {q : Addr} {fo : Ev} (c : Cl) (he : PE X o (TP K ct W fo)) (cl : Cls X.K (ct.ad c)) (hp : PropOf X.K (ct.ad c) m q f) (Fn : FnOk X.prog X.w X.K X.mg X.base CX k f fd ps (spP K ct.ad n G)) (hr : Room (k + 1) X.A) (hb : Binds X.K fd ps []) (hx : Passes CX X.nox E0)
    (hab : attributeBase o m X.env (eval o X.env) = eval o X.env := by rfl) : PE X (.Attribute o m pos) (TP K ct W (evMeth n G c fo [])) := (pe_prop he cl hp Fn hr hb .nil hx hab).imp fun σ H Q h => by
  obtain ⟨fr, F, ρ, S, h⟩ := h
  unfold evMeth at h
  rw [dcont (k := fun c xs => bnd (evAs []) fun ar => noEr (callG n G (.d (.obj c xs) :: ar)))] at h
  refine Tat.obj h S fun F1 H1 ρ1 a dx vs xs s1 S1 h1 l1 k1 h => ?_
  refine ⟨a, dx, _, rfl, S1.fh _ _ h1, ?_⟩
  exact Tat.call (W := fun _ _ _ _ => False) (ar := [.d (.obj c xs)]) (Tat.noEr h) S1 (RAs.cons (Rp.obj h1 l1 k1) RAs.nil) fun _ _ _ z => z
/-! operators of own objects -/
def evOwn2 (n : Nat) (G : Fn) (c : Cl) (a b : Ev) : Ev := bnd (dat a) fun d => match d with
  | .obj c' xs => if c' = c then bnd (dat b) fun d2 => (match d2 with
      | .obj c2 ys => if c2 = c then noEr (callG n G [.d (.obj c xs), .d (.obj c ys)]) else fai
      | _ => fai) else fai
  | _ => fai
theorem w_own2 {c : Cl} {fa fb : Ev} {Q : VK} (h : TP K ct W (evOwn2 n G c fa fb) σ H Q) : tOp (OW.rOwn2 (ct.ad c) (spP K ct.ad n G) E0) (TP K ct W fa) (TP K ct W fb) σ H Q := by
  obtain ⟨fr, F, ρ, S, h⟩ := h
  refine Tat.obj h S fun F1 H1 ρ1 a dx vs xs s1 S1 h1 l1 k1 h => ?_
  refine Tat.obj h S1 fun F2 H2 ρ2 b dy us ys s2 S2 h2 l2 k2 h => ?_
  refine ⟨a, dx, _, b, dy, _, rfl, rfl, S2.fh _ _ (s2 _ _ h1), S2.fh _ _ h2, ?_⟩
  exact Tat.call (W := fun _ _ _ _ => False) (Tat.noEr h) S2 (RAs.cons ((Rp.obj h1 l1 k1).mono s2) (RAs.cons (Rp.obj h2 l2 k2) RAs.nil)) fun _ _ _ z => z
theorem pp_own2 {op : Operator} {m : Str} {a b : Expr} {fa fb : Ev} (c : Cl) (hm : m = PySem.dunder op.info.2) (M : Meth X.K (ct.ad c) m f) (hc : PySem.W.selfFirst X.K (ct.ad c) = true) (Fn : FnOk X.prog X.w X.K X.mg X.base CX k f fd ps (spP K ct.ad n G)) (hr : Room k X.A) (hb : Binds X.K fd ps []) (hx : Passes CX X E0)
    (ha : PE X a (TP K ct W fa)) (hbb : PE X b (TP K ct W fb)) : PE X (.BinOp a op b pos) (TP K ct W (evOwn2 n G c fa fb)) := (pe_op (OW.op_bin hm M hc Fn hr hb hx) ha hbb).imp fun _ _ _ => w_own2
theorem pp_owncmp {op : CmpOp} {m : Str} {a b : Expr} {fa fb : Ev} (c : Cl) (hm : m = (PySem.cmpInfo op).2.1) (hop : ∀ a b, compareOp op a b = richCompare op a b) (M : Meth X.K (ct.ad c) m f) (hn : PySem.W.notFirst X.K (ct.ad c) (.ref (ct.ad c)) = true) (Fn : FnOk X.prog X.w X.K X.mg X.base CX k f fd ps (spP K ct.ad n G)) (hr : Room k X.A) (hb : Binds X.K fd ps []) (hx : Passes CX X E0)
    (ha : PE X a (TP K ct W fa)) (hbb : PE X b (TP K ct W fb)) (hmk : behindInMarks op b = false) : PE X (.Compare a [op] [b] pos) (TP K ct W (evOwn2 n G c fa fb)) := (pe_cmpR (OW.op_cmp hm hop M hn Fn hr hb hx) ha hbb hmk).imp fun _ _ _ => w_own2
/-- x in o, o an own object -/
def evOwnIn (n : Nat) (G : Fn) (c : Cl) (a b : Ev) : Ev := bnd (dat a) fun x => bnd (dat b) fun d => match d with
  | .obj c' xs => if c' = c then tst (noEr (callG n G [.d (.obj c xs), .d x])) |> fun t => bnd t fun b => vD (.bl b) else fai
  | _ => fai
theorem pp_ownin {m : Str} {a b : Expr} {fa fb : Ev} (c : Cl) (hm : m = "__contains__") (M : Meth X.K (ct.ad c) m f) (Fn : FnOk X.prog X.w X.K X.mg X.base CX k f fd ps (spP K ct.ad n G)) (hr : Room k X.A) (hb : Binds X.K fd ps []) (hx : Passes CX X E0)
    (ha : PE X a (TP K ct W fa)) (hbb : PE X b (TP K ct W fb)) (hmk : behindInMarks .In b = false) : PE X (.Compare a [.In] [b] pos) (TP K ct W (evOwnIn n G c fa fb)) := (pe_cmpR (OW.op_in hm M Fn hr hb hx) ha hbb hmk).imp fun σ H Q h => by
  obtain ⟨fr, F, ρ, S, h⟩ := h
  refine Tat.dat h S fun F0 H0 ρ0 x dx0 s0 S0 r0 h => ?_
  refine Tat.obj h S0 fun F1 H1 ρ1 a dx vs xs s1 S1 h1 l1 k1 h => ?_
  refine ⟨a, dx, _, rfl, S1.fh _ _ h1, ?_⟩
  have h2 : Tat K ct (RV K ct.ad) W fr F1 ρ1 (noEr (callG n G [.d (.obj c xs), .d dx0])) σ fun z H' => ∃ b, z = .bl b ∧ Q (.bl (if false then !b else b)) H' :=
    Tat.tstT (k := fun b => vD (.bl b)) h fun F2 H2 ρ2 b s2 S2 h => ⟨b, rfl, Tat.ok (a := Rv.d (.bl b)) h _ F2 H2 (Same.refl _) S2 (Rp.bl b)⟩
  exact Tat.call (W := fun _ _ _ _ => False) (Tat.noEr h2) S1 (RAs.cons (Rp.obj h1 l1 k1) (RAs.cons (r0.mono s1) RAs.nil)) fun _ _ _ z => z
end
end PL
end
section
namespace PL
open PySem PySem.Spec PyProof.Rows L2
variable {K : PySem.W.Frag} {ad : Cl → Addr} {ct : CT}
variable {fr : Fr} {F F' H H' : Hp} {σ : L2.St} {ρ : List Sl} {W : WX}
/-! ### statements -/
def evSeq (s t : M Fl) : M Fl := fun ρ => match s ρ with
  | some (.ok .nx, ρ1) => t ρ1
  | r => r
def evNx : M Fl := pur .nx
def setD (i : Nat) (d : D) : M Fl := fun ρ => match ρ[i]? with
  | some (.cel .par _) => none
  | some _ => some (.ok .nx, ρ.set i (.dat d))
  | none => none
def setC (i : Nat) (c : CC) : M Fl := fun ρ => match ρ[i]? with
  | some (.cel .par _) => none
  | some _ => some (.ok .nx, ρ.set i (.cel .own c))
  | none => none
def evAsg (i : Nat) (e : Ev) : M Fl := bnd (dat e) fun d => setD i d
def evAsgC (i : Nat) (e : Ev) : M Fl := bnd e fun r => match r with | .c c => setC i c | .d _ => fai
def evEx (e : Ev) : M Fl := bnd e fun _ => pur .nx
def evRet (e : Ev) : M Fl := bnd e fun r => pur (.rt r)
def evIf (t : M Bool) (a b : M Fl) : M Fl := bnd t fun c => if c then a else b
variable (K ct) in
theorem Sat.bnd {R : Rel3 β α} {D : Ends} {m : M α} {k : α → M Fl} {Q1 : β → Hp → Prop} (h : Sat K ct W D fr F ρ (PL.bnd m k)) (S : Rel K ct fr F H σ ρ)
    (hW : ∀ σ' cls d H', W cls d σ' H' → W cls d σ' H')
    (hq : ∀ F1 H1 ρ1 v a, Same F F1 → Rel K ct fr F1 H1 σ ρ1 → R fr F1 H1 σ ρ1 v a → Sat K ct W D fr F1 ρ1 (k a) → Q1 v H1) : T K ct R W m σ H Q1 := by
  refine ⟨fr, F, ρ, S, ?_⟩
  obtain ⟨r, ρ', e, q⟩ := h
  unfold PL.bnd at e
  cases em : m ρ with
  | none => rw [em] at e; cases e
  | some x =>
    obtain ⟨r1, ρ1⟩ := x
    rw [em] at e
    cases r1 with
    | ok a =>
      refine ⟨.ok a, ρ1, em, fun v F1 H1 s1 S1 r1 => hq F1 H1 ρ1 v a s1 S1 r1 ⟨r, ρ', e, ?_⟩⟩
      cases r with
      | ok z =>
        cases z with
        | nx => exact fun σ' F' H' s' => q σ' F' H' (s1.trans s')
        | bk => exact fun σ' F' H' s' => q σ' F' H' (s1.trans s')
        | ct => exact fun σ' F' H' s' => q σ' F' H' (s1.trans s')
        | rt x => exact fun σ' v F' H' s' => q σ' v F' H' (s1.trans s')
      | er c pl => exact fun σ' d F' H' s' => q σ' d F' H' (s1.trans s')
    | er c pl =>
      refine ⟨.er c pl, ρ1, em, ?_⟩
      have e : (some (Ex.er c pl, ρ1) : Option (Ex Fl × List Sl)) = some (r, ρ') := e
      cases e
      exact fun d F' H' s' S' pr => q σ d F' H' s' S' pr
theorem Sat.mono {D : Ends} {s : M Fl} (h : Sat K ct W D fr F ρ s) (s1 : Same F F') : Sat K ct W D fr F' ρ s := by
  obtain ⟨r, ρ', e, q⟩ := h
  refine ⟨r, ρ', e, ?_⟩
  cases r with
  | ok z =>
    cases z with
    | nx => exact fun σ' F' H' s' => q σ' F' H' (s1.trans s')
    | bk => exact fun σ' F' H' s' => q σ' F' H' (s1.trans s')
    | ct => exact fun σ' F' H' s' => q σ' F' H' (s1.trans s')
    | rt x => exact fun σ' v F' H' s' => q σ' v F' H' (s1.trans s')
  | er c pl => exact fun σ' d F' H' s' => q σ' d F' H' (s1.trans s')
/-- .. of data -/
theorem Sat.dat {D : Ends} {m : Ev} {k : PL.D → M Fl} {Q1 : V → Hp → Prop} (h : Sat K ct W D fr F ρ (PL.bnd (PL.dat m) k)) (S : Rel K ct fr F H σ ρ)
    (hq : ∀ F1 H1 ρ1 v d, Same F F1 → Rel K ct fr F1 H1 σ ρ1 → Rp K ct.ad F1 v d → Sat K ct W D fr F1 ρ1 (k d) → Q1 v H1) : T K ct (RV K ct.ad) W m σ H Q1 := by
  have e : PL.bnd (PL.dat m) k = PL.bnd m fun r => PL.bnd (match r with | Rv.d d => pur d | Rv.c c => PL.opt c.froz) k := by
    funext ρ
    unfold PL.dat PL.bnd
    cases em : m ρ with
    | none => rfl
    | some x =>
      obtain ⟨r1, ρ1⟩ := x
      cases r1 with
      | ok a => cases a <;> rfl
      | er c pl => rfl
  rw [e] at h
  refine Sat.bnd K ct h S (fun _ _ _ _ z => z) fun F1 H1 ρ1 v r s1 S1 r1 q => ?_
  cases r with
  | d d => exact hq F1 H1 ρ1 v d s1 S1 r1 q
  | c c =>
    obtain ⟨p, ev, fp⟩ := r1
    subst ev
    cases ef : c.froz with
    | none =>
      obtain ⟨r, ρ', e, q⟩ := q
      have e : PL.bnd (PL.opt c.froz) k ρ1 = some (r, ρ') := e
      rw [ef] at e
      cases e
    | some d =>
      obtain ⟨F2, s2, rp, S2⟩ := fp.frz S1 ef
      refine hq F2 H1 ρ1 _ d (s1.trans s2) S2 rp ?_
      have q2 := q.mono s2
      obtain ⟨r, ρ', e, q⟩ := q2
      have e : PL.bnd (PL.opt c.froz) k ρ1 = some (r, ρ') := e
      rw [ef] at e
      exact ⟨r, ρ', e, q⟩
theorem Sat.to {D : Ends} {s : M Fl} (h : Sat K ct W D fr F ρ s) (S : Rel K ct fr F H σ ρ) : TSt K ct W s D σ H := ⟨fr, F, ρ, S, h⟩
theorem Sat.nx {D : Ends} (h : Sat K ct W D fr F ρ (pur .nx)) {σ' : L2.St} {H' : Hp} (s : Same F F') (S : Rel K ct fr F' H' σ' ρ) : D.nx σ' H' := by
  obtain ⟨r, ρ', e, q⟩ := h
  cases e
  exact q σ' F' H' s S
theorem Rel.npar (S : Rel K ct fr F H σ ρ) {i : Nat} {s : Sl} (e : ρ[i]? = some s) (h : ∀ c, s ≠ .cel .par c) : fr.pa i = none := by
  cases z : fr.pa i with
  | none => rfl
  | some q =>
    obtain ⟨k1, c1, h1, h2⟩ := S.pcs i q z
    rw [e] at h1
    cases h1
    cases k1 with
    | own => cases h2
    | par => exact absurd rfl (h c1)
theorem Sat.setD {D : Ends} {i : Nat} {d : PL.D} {v : V} (h : Sat K ct W D fr F ρ (PL.setD i d)) (S : Rel K ct fr F H σ ρ) (r : Rp K ct.ad F v d) : D.nx (σ.set i (some v)) H := by
  obtain ⟨r0, ρ', e, q⟩ := h
  unfold PL.setD at e
  split at e
  · cases e
  · rename_i s hn hs
    cases e
    exact q _ F H (Same.refl _) (S.setD r (S.npar hs hn))
  · cases e
theorem Sat.setC {D : Ends} {i : Nat} {c : CC} {p : Addr} (h : Sat K ct W D fr F ρ (PL.setC i c)) (S : Rel K ct fr F H σ ρ) (r : Fresh K ct.ad fr F H σ ρ p c) : D.nx (σ.set i (some (.ref p))) H := by
  obtain ⟨r0, ρ', e, q⟩ := h
  unfold PL.setC at e
  split at e
  · cases e
  · rename_i s hn hs
    cases e
    exact q _ F H (Same.refl _) (S.setC r (S.npar hs hn))
  · cases e
section
variable {X : Cx} {e : Expr} {m : Ev} {pos pos' : Pos} {s t : M Fl} {tb : M Bool} {st : Stmt} {sts : List Stmt}
theorem ss_c (h1 : PS X st (TSt K ct W s)) (h2 : PSs X sts (TSt K ct W t)) : PSs X (st :: sts) (TSt K ct W (evSeq s t)) := (pss_cons h1 h2).imp fun D σ H h => by
  obtain ⟨fr, F, ρ, S, r, ρ', e, q⟩ := h
  refine ⟨fr, F, ρ, S, ?_⟩
  unfold evSeq at e
  cases es : s ρ with
  | none => rw [es] at e; cases e
  | some x =>
    obtain ⟨r1, ρ1⟩ := x
    rw [es] at e
    refine ⟨r1, ρ1, es, ?_⟩
    cases r1 with
    | ok fl =>
      cases fl with
      | nx =>
        intro σ1 F1 H1 s1 S1
        refine ⟨fr, F1, ρ1, S1, Sat.mono ⟨r, ρ', e, q⟩ s1⟩
      | bk => cases e; exact q
      | ct => cases e; exact q
      | rt x => cases e; exact q
    | er c pl => cases e; exact q
theorem ss_1 (h1 : PS X st (TSt K ct W s)) : PSs X [st] (TSt K ct W s) := (pss_one h1).imp fun D σ H h => h
theorem ss_n : PSs X [] (TSt K ct W evNx) := pss_nil.imp fun D σ H ⟨fr, F, ρ, S, h⟩ => h.nx (Same.refl _) S
theorem s_set {i : Nat} {x : Str} (hN : X.N.Nodup) (hi : X.N[i]? = some x) (hx : Loc X.env.scope x) (he : PE X e (TP K ct W m)) (hs : swapsWith e (some (.Name x pos')) pos.line X.env = pure false := by rfl) (hf : X.fn x = true ∨ X.env.scope.names.lookup x = some .local := by first | exact .inl rfl | exact .inr rfl | assumption) :
    PS X (.Assign [.Name x pos'] e pos) (TSt K ct W (evAsg i m)) := (ps_set hN hi hx he hs hf).imp fun D σ H ⟨fr, F, ρ, S, h⟩ => h.dat S fun F1 H1 ρ1 v d s1 S1 r1 h => h.setD S1 r1
theorem w_setC {i : Nat} {D : Ends} (h : TSt K ct W (evAsgC i m) D σ H) : tAsg (TP K ct W m) (gName i) D σ H := by
  obtain ⟨fr, F, ρ, S, h⟩ := h
  refine Sat.bnd K ct h S (fun _ _ _ _ z => z) fun F1 H1 ρ1 v r s1 S1 r1 h => ?_
  cases r with
  | d d => obtain ⟨_, _, e, _⟩ := h; cases e
  | c c => obtain ⟨p, ev, fp⟩ := r1; subst ev; exact Sat.setC h S1 fp
theorem s_setC {i : Nat} {x : Str} (hN : X.N.Nodup) (hi : X.N[i]? = some x) (hx : Loc X.env.scope x) (he : PE X e (TP K ct W m)) (hs : swapsWith e (some (.Name x pos')) pos.line X.env = pure false := by rfl) (hf : X.fn x = true ∨ X.env.scope.names.lookup x = some .local := by first | exact .inl rfl | exact .inr rfl | assumption) :
    PS X (.Assign [.Name x pos'] e pos) (TSt K ct W (evAsgC i m)) := (ps_set hN hi hx he hs hf).imp fun D σ H => w_setC
theorem s_ex (he : PE X e (TP K ct W m)) (hs : swapsWith e none pos.line X.env = pure false := by rfl) : PS X (.Expr e pos) (TSt K ct W (evEx m)) := (ps_expr he hs).imp fun D σ H ⟨fr, F, ρ, S, h⟩ => Sat.bnd K ct h S (fun _ _ _ _ z => z) fun F1 H1 ρ1 v r s1 S1 r1 h => Sat.nx h (Same.refl _) S1
theorem s_ret (he : PE X e (TP K ct W m)) : PS X (.Return (some e) pos) (TSt K ct W (evRet m)) := (ps_ret he).imp fun D σ H ⟨fr, F, ρ, S, h⟩ => Sat.bnd K ct h S (fun _ _ _ _ z => z) fun F1 H1 ρ1 v r s1 S1 r1 ⟨_, _, e, q⟩ => by
  cases e
  exact q σ v F1 H1 (Same.refl _) S1 r1
theorem s_if {c : Expr} {a b : List Stmt} (hc : PT X c (TB K ct W tb)) (ha : PSs X a (TSt K ct W s)) (hb : PSs X b (TSt K ct W t)) : PS X (.If c a b pos) (TSt K ct W (evIf tb s t)) := (ps_if hc ha hb).imp fun D σ H ⟨fr, F, ρ, S, h⟩ =>
  Sat.bnd K ct h S (fun _ _ _ _ z => z) fun F1 H1 ρ1 v c s1 S1 r1 h => by
    cases r1
    cases v with
    | true => rw [if_pos rfl]; exact h.to S1
    | false => rw [if_neg Bool.false_ne_true]; exact h.to S1
end
/-! ### targets -/
inductive Tg | n (i : Nat) | t (ts : List Tg)
mutual
def asgT : Tg → D → M Fl
  | .n i, d => setD i d
  | .t ts, .tup xs => asgTs ts xs
  | .t _, _ => fai
def asgTs : List Tg → List D → M Fl
  | [], [] => pur .nx
  | t :: ts, x :: xs => evSeq (asgT t x) (asgTs ts xs)
  | _, _ => fai
end
mutual
def Tg.sl : Tg → List Nat
  | .n i => [i]
  | .t ts => Tg.sls ts
def Tg.sls : List Tg → List Nat
  | [] => []
  | x :: xs => Tg.sl x ++ Tg.sls xs
end
/-- the slots outside vs are as they were -/
def OutS (vs : List Nat) (σ σ' : L2.St) : Prop := σ'.length = σ.length ∧ ∀ i, i ∉ vs → σ'[i]? = σ[i]?
theorem OutS.refl {vs : List Nat} {σ : L2.St} : OutS vs σ σ := ⟨rfl, fun _ _ => rfl⟩
theorem OutS.trans {vs : List Nat} {σ σ1 σ2 : L2.St} (a : OutS vs σ σ1) (b : OutS vs σ1 σ2) : OutS vs σ σ2 := ⟨b.1.trans a.1, fun i h => (b.2 i h).trans (a.2 i h)⟩
theorem OutS.sub {vs ws : List Nat} {σ σ1 : L2.St} (a : OutS vs σ σ1) (h : ∀ i ∈ vs, i ∈ ws) : OutS ws σ σ1 := ⟨a.1, fun i q => a.2 i fun z => q (h i z)⟩
theorem wipe_get (σ : L2.St) : ∀ (vs : List Nat) (i : Nat), (wipe σ vs)[i]? = if i ∈ vs ∧ i < σ.length then some none else σ[i]?
  | [], i => by simp [wipe]
  | v :: vs, i => by
    have ih := wipe_get σ vs i
    show ((wipe σ vs).set v none)[i]? = _
    by_cases q : v = i
    · subst q
      by_cases l : v < σ.length
      · rw [List.getElem?_set_self (by rw [wipe_length]; exact l), if_pos ⟨List.mem_cons_self, l⟩]
      · rw [List.getElem?_eq_none (by rw [List.length_set, wipe_length]; omega), if_neg (fun z => l z.2), List.getElem?_eq_none (by omega)]
    · rw [List.getElem?_set_ne q, ih]
      by_cases m : i ∈ vs
      · by_cases l : i < σ.length
        · rw [if_pos ⟨m, l⟩, if_pos ⟨List.mem_cons_of_mem _ m, l⟩]
        · rw [if_neg (fun z => l z.2), if_neg (fun z => l z.2)]
      · rw [if_neg (fun z => m z.1), if_neg (fun z => (List.mem_cons.mp z.1).elim (fun w => q w.symm) m)]
theorem OutS.wipe {vs : List Nat} {σ σ' : L2.St} (a : OutS vs σ σ') : L2.wipe σ' vs = L2.wipe σ vs := by
  refine List.ext_getElem? fun i => ?_
  rw [wipe_get, wipe_get, a.1]
  split
  · rfl
  · rename_i h
    by_cases m : i ∈ vs
    · have l : ¬ i < σ.length := fun z => h ⟨m, z⟩
      rw [List.getElem?_eq_none (by rw [a.1]; omega), List.getElem?_eq_none (by omega)]
    · exact a.2 i m
theorem OutS.set {i : Nat} {v : Option V} {σ : L2.St} : OutS [i] σ (σ.set i v) := ⟨by simp, fun j h => List.getElem?_set_ne (fun z => h (by simp [z]))⟩
variable (K ct) in
def TGt (tg : Tg) : TG := fun v σ H Q => ∃ fr F ρ d ρ', Rel K ct fr F H σ ρ ∧ Rp K ct.ad F v d ∧ asgT tg d ρ = some (.ok .nx, ρ') ∧ ∀ σ' F' H', Same F F' → OutS tg.sl σ σ' → Rel K ct fr F' H' σ' ρ' → Q σ' H'
variable (K ct) in
def TGts (tg : List Tg) : TGs := fun vs σ H Q => ∃ fr F ρ ds ρ', Rel K ct fr F H σ ρ ∧ Rps K ct.ad F vs ds ∧ asgTs tg ds ρ = some (.ok .nx, ρ') ∧ ∀ σ' F' H', Same F F' → OutS (Tg.sls tg) σ σ' → Rel K ct fr F' H' σ' ρ' → Q σ' H'
theorem setD_ok {i : Nat} {d : D} {v : V} {ρ' : List Sl} (e : setD i d ρ = some (.ok .nx, ρ')) (S : Rel K ct fr F H σ ρ) (r : Rp K ct.ad F v d) : Rel K ct fr F H (σ.set i (some v)) ρ' := by
  unfold PL.setD at e
  split at e
  · cases e
  · rename_i s hn hs
    cases e
    exact S.setD r (S.npar hs hn)
  · cases e
section
variable {X : Cx} {pos : Pos}
theorem _root_.L2.PGs.imp {es : List Expr} {t t' : TGs} (h : PGs X es t) (w : ∀ v σ H Q, t' v σ H Q → t v σ H Q) : PGs X es t' := ⟨fun pins s σ H v u Q I r q => h.run pins s σ H v u Q I r (w v σ H Q q)⟩
theorem g_n {i : Nat} {x : Str} (hN : X.N.Nodup) (hi : X.N[i]? = some x) (hx : Loc X.env.scope x) (hf : X.fn x = true ∨ X.env.scope.names.lookup x = some .local := by first | exact .inl rfl | exact .inr rfl | assumption) : PG X (.Name x pos) (TGt K ct (.n i)) :=
  (pg_name hN hi hx hf).imp fun v σ H Q ⟨fr, F, ρ, d, ρ', S, r, e, q⟩ => q _ F H (Same.refl _) OutS.set (setD_ok e S r)
theorem gs_n : PGs X [] (TGts K ct []) := pgs_nil.imp fun v σ H Q ⟨fr, F, ρ, ds, ρ', S, r, e, q⟩ => by
  cases ds with
  | nil => cases r; cases e; exact ⟨rfl, q σ F H (Same.refl _) OutS.refl S⟩
  | cons d ds => cases e
theorem gs_c {e : Expr} {es : List Expr} {t : Tg} {ts : List Tg} (h1 : PG X e (TGt K ct t)) (h2 : PGs X es (TGts K ct ts))
    (hs : (assignEach (e :: es) X.env).map (·.2) = assign e X.env :: (assignEach es X.env).map (·.2) := by rfl) : PGs X (e :: es) (TGts K ct (t :: ts)) := (pgs_cons h1 h2 hs).imp fun vs σ H Q ⟨fr, F, ρ, ds, ρ', S, r, e, q⟩ => by
  cases ds with
  | nil => cases e
  | cons d ds =>
    cases r with
    | @cons v _ vs _ r rs =>
      have e : evSeq (asgT t d) (asgTs ts ds) ρ = some (.ok .nx, ρ') := e
      unfold evSeq at e
      split at e
      · rename_i ρ1 h1
        refine ⟨v, vs, rfl, fr, F, ρ, d, ρ1, S, r, h1, fun σ1 F1 H1 s1 o1 S1 => ?_⟩
        exact ⟨fr, F1, ρ1, ds, ρ', S1, rs.mono s1, e, fun σ2 F2 H2 s2 o2 S2 => q σ2 F2 H2 (s1.trans s2) (by rw [Tg.sls]; exact (o1.sub fun i z => List.mem_append_left _ z).trans (o2.sub fun i z => List.mem_append_right _ z)) S2⟩
      · rename_i h1
        exact absurd e (h1 ρ')
theorem g_t {es : List Expr} {k : Nat} {ts : List Tg} (eK : X.K = K) (hc : X.calm = true) (h : PGs X es (TGts K ct ts)) (hn : (assignEach es X.env).length = ts.length := by rfl) (hst : (assignEach es X.env).findIdx? (·.1) = none := by rfl) : PG X (.Tuple es k pos) (TGt K ct (.t ts)) := by
  subst eK
  refine (pg_tup (n := ts.length) hc h hn hst).imp fun v σ H Q ⟨fr, F, ρ, d, ρ', S, r, e, q⟩ => ?_
  cases d with
  | tup xs =>
    cases r with
    | @tup p vs _ h1 k1 =>
      have e : asgTs ts xs ρ = some (.ok .nx, ρ') := e
      have lens : ∀ (ts : List Tg) (xs : List D) (ρ ρ' : List Sl), asgTs ts xs ρ = some (.ok .nx, ρ') → xs.length = ts.length := by
        intro ts
        induction ts with
        | nil => intro xs ρ ρ' e; cases xs with | nil => rfl | cons _ _ => cases e
        | cons t ts ih =>
          intro xs ρ ρ' e
          cases xs with
          | nil => cases e
          | cons x xs =>
            have e : evSeq (asgT t x) (asgTs ts xs) ρ = some (.ok .nx, ρ') := e
            unfold evSeq at e
            split at e
            · rename_i ρ1 h1; rw [List.length_cons, List.length_cons, ih _ _ _ e]
            · rename_i h1; exact absurd e (h1 ρ')
      exact ⟨p, vs, rfl, sameT S.fh h1, by rw [k1.len]; exact lens _ _ _ _ e, fr, F, ρ, xs, ρ', S, k1, e, q⟩
  | _ => cases e
/-- a, b = e -/
def evAsgT (tg : Tg) (e : Ev) : M Fl := bnd (dat e) fun d => fun ρ => match asgT tg d ρ with | some (.ok .nx, ρ') => some (.ok .nx, ρ') | _ => none
theorem s_asgT {tg e : Expr} {t : Tg} {m : Ev} (he : PE X e (TP K ct W m)) (hg : PG X tg (TGt K ct t)) (hs : swapsWithSole [tg] e pos.line X.env = pure false := by rfl) (hw : swappedStores [tg] e X.env = pure none := by rfl)
    (h1 : (assignEach [tg] X.env).map (·.2) = [assign tg X.env] := by rfl) : PS X (.Assign [tg] e pos) (TSt K ct W (evAsgT t m)) := (ps_asg he hg hs hw h1).imp fun D σ H ⟨fr, F, ρ, S, h⟩ => h.dat S fun F1 H1 ρ1 v d s1 S1 r1 ⟨r, ρ', e, q⟩ => by
  have e : (match asgT t d ρ1 with | some (.ok .nx, ρ') => some (Ex.ok Fl.nx, ρ') | _ => none) = some (r, ρ') := e
  split at e
  · rename_i ρ2 h2
    cases e
    exact ⟨fr, F1, ρ1, d, _, S1, r1, h2, fun σ' F' H' s' _ S' => q σ' F' H' s' S'⟩
  · cases e
end
/-! ### loops -/
/-- heaps that grow by new objects -/
def Al (F H F' H' : Hp) : Prop := Same F F' ∧ Same H H' ∧ Same F' H' ∧ ∀ b, H b ≠ none → F b = none → F' b = none
theorem Rel.al (S : Rel K ct fr F H σ ρ) (a : Al F H F' H') : Rel K ct fr F' H' σ ρ := S.grow a.1 a.2.1 a.2.2.1 a.2.2.2
theorem Al.refl (s : Same F H) : Al F H F H := ⟨Same.refl _, Same.refl _, s, fun _ _ z => z⟩
variable (K ad) in
def ItOk (F : Hp) (xs : List D) (J : It) : Prop := ∀ F1 H1, Same F F1 → Same F1 H1 → ∀ i, (∀ x, xs[i]? = some x → J.go i H1 ∧ ∀ v H2, J.yld i H1 v H2 → ∃ F2, Al F1 H1 F2 H2 ∧ Rp K ad F2 v x) ∧ (xs.length ≤ i → J.stop i H1)
variable (K ad) in
def RI : Rel3 It (List D) := fun _ F _ _ _ J xs => ItOk K ad F xs J
variable (K ct) in
abbrev TIt (W : WX) (m : M (List D)) : TI := T K ct (RI K ct.ad) W m
def loop (tg : Tg) (body : M Fl) : List D → M Fl
  | [] => pur .nx
  | x :: xs => fun ρ => match asgT tg x ρ with
    | some (.ok .nx, ρ1) => (match body ρ1 with
      | some (.ok .nx, ρ2) => loop tg body xs ρ2
      | some (.ok .ct, ρ2) => loop tg body xs ρ2
      | some (.ok .bk, ρ2) => some (.ok .nx, ρ2)
      | r => r)
    | _ => none
def evFor (it : M (List D)) (tg : Tg) (body : M Fl) : M Fl := bnd it fun xs => loop tg body xs
theorem w_for {it : M (List D)} {tg : Tg} {body : M Fl} {D : Ends} (h : TSt K ct W (evFor it tg body) D σ H) : tFor (TIt K ct W it) (TGt K ct tg) (TSt K ct W body) D σ H := by
  obtain ⟨fr, F, ρ, S, h⟩ := h
  refine Sat.bnd K ct h S (fun _ _ _ _ z => z) fun F1 H1 ρ1 J xs s1 S1 r1 h => ?_
  refine ⟨fun i m σ H => m = xs.length - i ∧ i ≤ xs.length ∧ ∃ F2 ρ2, Same F1 F2 ∧ Rel K ct fr F2 H σ ρ2 ∧ Sat K ct W D fr F2 ρ2 (loop tg body (xs.drop i)), ⟨xs.length, by simp, Nat.zero_le _, F1, ρ1, Same.refl _, S1, h⟩, ?_⟩
  rintro i m σ2 H2 ⟨rfl, hi, F2, ρ2, s2, S2, h2⟩
  have it := r1 F2 H2 s2 S2.fh i
  by_cases lt : i < xs.length
  · refine .inr ?_
    obtain ⟨go, yl⟩ := it.1 xs[i] (List.getElem?_eq_getElem lt)
    refine ⟨go, fun σ' H' => ∃ F3 ρ3, Same F1 F3 ∧ Rel K ct fr F3 H' σ' ρ3 ∧ Sat K ct W D fr F3 ρ3 (loop tg body (xs.drop (i + 1))), fun σ' H' ⟨F3, ρ3, s3, S3, h3⟩ => ⟨xs.length - (i + 1), by omega, rfl, lt, F3, ρ3, s3, S3, h3⟩, fun v H3 y => ?_⟩
    obtain ⟨F3, al, rp⟩ := yl v H3 y
    have S3 := S2.al al
    rw [List.drop_eq_getElem_cons lt] at h2
    have h2 := Sat.mono h2 al.1
    obtain ⟨r, ρ', e, q⟩ := h2
    unfold loop at e
    cases ea : asgT tg xs[i] ρ2 with
    | none => rw [ea] at e; cases e
    | some x =>
      obtain ⟨rx, ρ4⟩ := x
      rw [ea] at e
      cases rx with
      | er c pl => cases e
      | ok fl =>
        cases fl with
        | nx =>
          refine ⟨fr, F3, ρ2, xs[i], ρ4, S3, rp, ea, fun σ4 F4 H4 s4 _ S4 => ⟨fr, F4, ρ4, S4, ?_⟩⟩
          have e : (match body ρ4 with | some (.ok .nx, ρ2) => loop tg body (xs.drop (i + 1)) ρ2 | some (.ok .ct, ρ2) => loop tg body (xs.drop (i + 1)) ρ2 | some (.ok .bk, ρ2) => some (.ok .nx, ρ2) | r => r) = some (r, ρ') := e
          cases eb : body ρ4 with
          | none => rw [eb] at e; cases e
          | some y =>
            obtain ⟨ry, ρ5⟩ := y
            rw [eb] at e
            have sF : Same F1 F4 := (s2.trans al.1).trans s4
            have next : ∀ (e : loop tg body (xs.drop (i + 1)) ρ5 = some (r, ρ')) σ' F' H', Same F4 F' → Rel K ct fr F' H' σ' ρ5 → ∃ F3 ρ3, Same F1 F3 ∧ Rel K ct fr F3 H' σ' ρ3 ∧ Sat K ct W D fr F3 ρ3 (loop tg body (xs.drop (i + 1))) := fun e σ' F' H' s' S' =>
              ⟨F', ρ5, sF.trans s', S', Sat.mono (F := F3) ⟨r, ρ', e, q⟩ (s4.trans s')⟩
            refine ⟨ry, ρ5, eb, ?_⟩
            cases ry with
            | er c pl => cases e; exact fun σ' d F' H' s' => q σ' d F' H' (s4.trans s')
            | ok fl =>
              cases fl with
              | nx => exact next e
              | ct => exact next e
              | bk => cases e; exact fun σ' F' H' s' => q σ' F' H' (s4.trans s')
              | rt x => cases e; exact fun σ' v F' H' s' => q σ' v F' H' (s4.trans s')
        | _ => cases e
  · refine .inl ⟨it.2 (by omega), ?_⟩
    rw [List.drop_eq_nil_of_le (by omega)] at h2
    exact Sat.nx h2 (Same.refl _) S2
theorem s_for {X : Cx} {tg iter : Expr} {body : List Stmt} {it : M (List D)} {t : Tg} {b : M Fl} {pos : Pos} (hp : PassesOwn (model X.prog X.w) X.A X.env X.xe) (hc : X.calm = true) (hi : PI X tg iter (TIt K ct W it)) (hg : PG X tg (TGt K ct t)) (hb : PSs X body (TSt K ct W b))
    (hs : ∀ x, foldedSetIterable iter X.env x = pure x := by intro _; rfl) : PS X (.For tg iter body [] pos) (TSt K ct W (evFor it t b)) := (ps_for hp hc hi hg hb hs).imp fun D σ H => w_for
/-! while -/
def whl (t : M Bool) (body : M Fl) : Nat → M Fl
  | 0 => fai
  | n + 1 => bnd t fun c => if c then (fun ρ => match body ρ with
      | some (.ok .nx, ρ1) => whl t body n ρ1
      | some (.ok .ct, ρ1) => whl t body n ρ1
      | some (.ok .bk, ρ1) => some (.ok .nx, ρ1)
      | r => r) else pur .nx
open Classical in
/-- what a while that ends gives -/
noncomputable def evWhl (t : M Bool) (body : M Fl) : M Fl := fun ρ => if h : ∃ n r, whl t body n ρ = some r then some h.choose_spec.choose else none
end PL
end
section
namespace PL
open PySem PySem.Spec PyProof.Rows L2
variable {K : PySem.W.Frag} {ad : Cl → Addr} {ct : CT}
variable {fr : Fr} {F F' H H' : Hp} {σ : L2.St} {ρ : List Sl} {W : WX}
/-! ### what is walked -/
def D.litems : D → Option (List D) | .lst xs => some xs | .sq xs => some xs | _ => none
def D.titems : D → Option (List D) | .tup xs => some xs | _ => none
def chars (z : Str) : List D := z.cps.toList.map fun c => .str ⟨#[c]⟩
def D.sitems : D → Option (List D) | .str z => some (chars z) | _ => none
def itL (e : Ev) : M (List D) := bnd (dat e) fun d => opt d.litems
def itT (e : Ev) : M (List D) := bnd (dat e) fun d => opt d.titems
def itS (e : Ev) : M (List D) := bnd (dat e) fun d => opt d.sitems
def rngD (lo : Int) (n : Nat) : List D := (List.range n).map fun (i : Nat) => .int (lo + i)
def itR1 (e : Ev) : M (List D) := bnd (dat e) fun d => match d with | .int j => if -(2 ^ 62) ≤ j ∧ j < 2 ^ 62 then pur (rngD 0 j.toNat) else fai | _ => fai
def itR2 (a b : Ev) : M (List D) := bnd (dat a) fun x => bnd (dat b) fun y => match x, y with
  | .int i, .int j => if -(2 ^ 62) ≤ i ∧ i < 2 ^ 62 ∧ -(2 ^ 62) ≤ j ∧ j < 2 ^ 62 then pur (rngD i (j - i).toNat) else fai
  | _, _ => fai
theorem it_lst {K : PySem.W.Frag} {p : Addr} {vs : List V} {xs : List D} (h : SqL K F p vs) (r : Rps K ct.ad F vs xs) : ItOk K ct.ad F xs (Itl K p) := by
  intro F1 H1 s1 s2 i
  have h1 : SqL K H1 p vs := (s1.trans s2).seq h
  refine ⟨fun x e => ?_, fun l => ⟨vs, h1, by rw [r.len]; exact l⟩⟩
  obtain ⟨v, e1, e2⟩ := r.get e
  refine ⟨⟨vs, v, h1, e1⟩, fun u H2 y => ?_⟩
  obtain ⟨y1, y2⟩ := y
  subst y1
  have := y2 vs h1
  rw [e1] at this
  cases this
  exact ⟨F1, Al.refl s2, e2.mono s1⟩
theorem it_tup {K : PySem.W.Frag} {p : Addr} {vs : List V} {xs : List D} (h : SqT K F p vs) (r : Rps K ct.ad F vs xs) : ItOk K ct.ad F xs (Itt K p) := by
  intro F1 H1 s1 s2 i
  have h1 : SqT K H1 p vs := sameT (s1.trans s2) h
  refine ⟨fun x e => ?_, fun l => ⟨vs, h1, by rw [r.len]; exact l⟩⟩
  obtain ⟨v, e1, e2⟩ := r.get e
  refine ⟨⟨vs, v, h1, e1⟩, fun u H2 y => ?_⟩
  obtain ⟨y1, y2⟩ := y
  subst y1
  have := y2 vs h1
  rw [e1] at this
  cases this
  exact ⟨F1, Al.refl s2, e2.mono s1⟩
theorem it_rng {lo : Int} {n : Nat} : ItOk K ct.ad F (rngD lo n) (Itr lo n) := by
  intro F1 H1 s1 s2 i
  refine ⟨fun x e => ?_, fun l => by unfold rngD at l; rw [List.length_map, List.length_range] at l; exact l⟩
  unfold rngD at e
  rw [List.getElem?_map] at e
  obtain ⟨j, e1, e2⟩ := Option.map_eq_some_iff.mp e
  obtain ⟨l, e3⟩ := List.getElem?_eq_some_iff.mp e1
  rw [List.length_range] at l
  rw [List.getElem_range] at e3
  subst e3
  subst e2
  refine ⟨l, fun v H2 y => ?_⟩
  obtain ⟨y1, y2⟩ := y
  subst y1 y2
  exact ⟨F1, Al.refl s2, .int _⟩
section
variable {X : Cx} {tg l : Expr} {m : Ev}
theorem pi_l (eK : X.K = K) (hl : PE X l (TP K ct W m)) : PI X tg l (TIt K ct W (itL m)) := by
  subst eK
  refine (pi_list hl).imp fun σ H R h => ?_
  obtain ⟨fr, F, ρ, S, h⟩ := h
  refine Tat.dat h S fun F1 H1 ρ1 v d s1 S1 r1 h => ?_
  obtain ⟨xs, e1, q⟩ := h.opt
  cases d <;> cases e1
  · cases r1 with | lst h k => exact ⟨_, rfl, ⟨_, SqL.of (S1.fh _ _ h)⟩, q _ F1 H1 (Same.refl _) S1 (it_lst (SqL.of h) k)⟩
  · cases r1 with | sq h k => exact ⟨_, rfl, ⟨_, S1.fh.seq h⟩, q _ F1 H1 (Same.refl _) S1 (it_lst h k)⟩
theorem pi_t (eK : X.K = K) (hl : PE X l (TP K ct W m)) : PI X tg l (TIt K ct W (itT m)) := by
  subst eK
  refine (pi_tup hl).imp fun σ H R h => ?_
  obtain ⟨fr, F, ρ, S, h⟩ := h
  refine Tat.dat h S fun F1 H1 ρ1 v d s1 S1 r1 h => ?_
  obtain ⟨xs, e1, q⟩ := h.opt
  cases d <;> cases e1
  cases r1 with | tup h k => exact ⟨_, rfl, ⟨_, sameT S1.fh h⟩, q _ F1 H1 (Same.refl _) S1 (it_tup h k)⟩
theorem pi_r1 {a : Expr} {p pos : Pos} {m : Ev} (hg : Gl X "range") (hm : X.mg "range" = none) (ha : PE X a (TP K ct W m)) (hs : starEach [a] X.env = [(false, eval a X.env)] := by rfl) : PI X tg (.Call (.Name "range" p) [a] [] pos) (TIt K ct W (itR1 m)) := by
  refine (pi_range1 hg hm (pa_cons ha pa_nil (by rw [hs]; rfl)) hs).imp fun σ H R h => ?_
  obtain ⟨fr, F, ρ, S, h⟩ := h
  refine Tat.dat h S fun F1 H1 ρ1 v d s1 S1 r1 h => ?_
  cases d with
  | int j =>
    cases r1
    have h : Tat K ct (RI K ct.ad) W fr F1 ρ1 (if -(2 ^ 62) ≤ j ∧ j < 2 ^ 62 then pur (rngD 0 j.toNat) else fai) σ R := h
    split at h
    · rename_i c
      exact ⟨j, rfl, c.1, c.2, Tat.ok h _ F1 H1 (Same.refl _) S1 it_rng⟩
    · obtain ⟨_, _, e, _⟩ := h; cases e
  | _ => obtain ⟨_, _, e, _⟩ := h; cases e
theorem pi_r2 {a b : Expr} {p pos : Pos} {m n : Ev} (hg : Gl X "range") (hm : X.mg "range" = none) (ha : PE X a (TP K ct W m)) (hb : PE X b (TP K ct W n)) (hs : starEach [a, b] X.env = [(false, eval a X.env), (false, eval b X.env)] := by rfl) (hs2 : starEach [b] X.env = [(false, eval b X.env)] := by rfl) : PI X tg (.Call (.Name "range" p) [a, b] [] pos) (TIt K ct W (itR2 m n)) := by
  refine (pi_range2 hg hm (pa_cons ha (pa_cons hb pa_nil (by rw [hs2]; rfl)) (by rw [hs, hs2])) hs hs2).imp fun σ H R h => ?_
  obtain ⟨fr, F, ρ, S, h⟩ := h
  refine Tat.dat h S fun F1 H1 ρ1 v d s1 S1 r1 h => ?_
  refine Tat.dat h S1 fun F2 H2 ρ2 u e s2 S2 r2 h => ?_
  have r1 := r1.mono s2
  cases d with
  | int i =>
    cases e with
    | int j =>
      cases r1
      cases r2
      have h : Tat K ct (RI K ct.ad) W fr F2 ρ2 (if -(2 ^ 62) ≤ i ∧ i < 2 ^ 62 ∧ -(2 ^ 62) ≤ j ∧ j < 2 ^ 62 then pur (rngD i (j - i).toNat) else fai) σ R := h
      split at h
      · rename_i c
        exact ⟨i, j, rfl, c, Tat.ok h _ F2 H2 (Same.refl _) S2 it_rng⟩
      · obtain ⟨_, _, e, _⟩ := h; cases e
    | _ => obtain ⟨_, _, e, _⟩ := h; cases e
  | _ => obtain ⟨_, _, e, _⟩ := h; cases e
end
/-! ### comprehensions -/
def wipeR (ρ : List Sl) : List Nat → List Sl
  | [] => ρ
  | v :: vs => (wipeR ρ vs).set v .un
def okOwn (ρ : List Sl) (vs : List Nat) : Bool := vs.all fun v => match ρ[v]? with | some (.cel _ _) => false | some (.exn _ _) => false | _ => true
def restR (ρ0 ρ : List Sl) : List Nat → List Sl
  | [] => ρ
  | v :: vs => (restR ρ0 ρ vs).set v ((ρ0[v]?).getD .un)
def lcGo (vs : List Nat) (tg : Tg) (c : M Bool) (e : Ev) : List D → List D → M (List D)
  | [], acc => pur acc
  | x :: xs, acc => fun ρ => match asgT tg x ρ with
    | some (.ok .nx, ρ1) => bnd (noEr c) (fun b => if b then bnd (dat (noEr e)) (fun d => if acc.length < 16777216 then (fun ρ => lcGo vs tg c e xs (acc ++ [d]) (wipeR ρ vs)) else fai) else fun ρ => lcGo vs tg c e xs acc (wipeR ρ vs)) ρ1
    | _ => none
def lcRun (vs : List Nat) (m : List D → List D → M (List D)) (xs : List D) : Ev := fun ρ => if okOwn ρ vs then match m xs [] (wipeR ρ vs) with
    | some (.ok acc, ρ') => some (.ok (.c (.lst acc)), restR ρ ρ' vs)
    | _ => none
  else none
def evLc (vs : List Nat) (it : M (List D)) (tg : Tg) (c : M Bool) (e : Ev) : Ev := bnd it fun xs => lcRun vs (lcGo vs tg c e) xs
theorem okOwn_np {vs : List Nat} (S : Rel K ct fr F H σ ρ) (h : okOwn ρ vs = true) : ∀ v ∈ vs, fr.pa v = none := fun v hv => by
  have h1 := List.all_eq_true.mp h v hv
  cases z : fr.pa v with
  | none => rfl
  | some p =>
    obtain ⟨k, c, e, _⟩ := S.pcs v p z
    rw [e] at h1
    cases h1
theorem Rel.wipe : ∀ {vs : List Nat}, Rel K ct fr F H σ ρ → (∀ v ∈ vs, fr.pa v = none) → Rel K ct fr F H (L2.wipe σ vs) (wipeR ρ vs)
  | [], S, _ => S
  | v :: vs, S, h => (Rel.wipe S fun x hx => h x (List.mem_cons_of_mem _ hx)).setU (h v List.mem_cons_self)
theorem restR_len (ρ0 ρ : List Sl) : ∀ vs : List Nat, (restR ρ0 ρ vs).length = ρ.length
  | [] => rfl
  | v :: vs => by unfold restR; rw [List.length_set, restR_len ρ0 ρ vs]
theorem restR_get (ρ0 ρ : List Sl) : ∀ (vs : List Nat) (i : Nat), (restR ρ0 ρ vs)[i]? = if i ∈ vs ∧ i < ρ.length then some ((ρ0[i]?).getD .un) else ρ[i]?
  | [], i => by simp [restR]
  | v :: vs, i => by
    have ih := restR_get ρ0 ρ vs i
    show ((restR ρ0 ρ vs).set v ((ρ0[v]?).getD .un))[i]? = _
    by_cases q : v = i
    · subst q
      by_cases l : v < ρ.length
      · rw [List.getElem?_set_self (by rw [restR_len]; exact l), if_pos ⟨List.mem_cons_self, l⟩]
      · rw [List.getElem?_eq_none (by rw [List.length_set, restR_len]; omega), if_neg (fun z => l z.2), List.getElem?_eq_none (by omega)]
    · rw [List.getElem?_set_ne q, ih]
      by_cases m : i ∈ vs
      · by_cases l : i < ρ.length
        · rw [if_pos ⟨m, l⟩, if_pos ⟨List.mem_cons_of_mem _ m, l⟩]
        · rw [if_neg (fun z => l z.2), if_neg (fun z => l z.2)]
      · rw [if_neg (fun z => m z.1), if_neg (fun z => (List.mem_cons.mp z.1).elim (fun w => q w.symm) m)]
/-- back from a block -/
theorem Rel.rest {vs : List Nat} {F0 H0 : Hp} {ρ0 : List Sl} (S0 : Rel K ct fr F0 H0 σ ρ0) (s : Same F0 F) (ok : okOwn ρ0 vs = true) (S : Rel K ct fr F H (L2.wipe σ vs) ρ) : Rel K ct fr F H σ (restR ρ0 ρ vs) := by
  have lr : ρ.length = ρ0.length := by rw [← S.len, wipe_length, S0.len]
  have out : ∀ {i : Nat}, i ∉ vs → (L2.wipe σ vs)[i]? = σ[i]? := fun {i} h => by rw [wipe_get, if_neg (fun z => h z.1)]
  have nc : ∀ {i : Nat} {k : CK} {c : CC}, (restR ρ0 ρ vs)[i]? = some (.cel k c) → i ∉ vs ∧ ρ[i]? = some (.cel k c) := fun {i k c} e => by
    rw [restR_get] at e
    split at e
    · rename_i h
      have h1 := List.all_eq_true.mp ok i h.1
      cases q : ρ0[i]? with
      | none =>
        rw [q] at e
        cases e
      | some x =>
        rw [q] at e h1
        have e : some x = some (Sl.cel k c) := e
        cases e
        cases h1
    · rename_i h
      refine ⟨fun m => h ⟨m, (List.getElem?_eq_some_iff.mp e).1⟩, e⟩
  refine ⟨by rw [restR_len, lr]; exact S0.len, S.fh, fun i s0 e => ?_, fun i j k c k' c' p e1 e2 h1 h2 => ?_, S.keep, S.fro, fun i p e => ?_⟩
  · rw [restR_get] at e
    split at e
    · rename_i h
      cases q : ρ0[i]? with
      | none =>
        rw [q] at e
        cases e
        have := List.getElem?_eq_none_iff.mp q
        omega
      | some x =>
        rw [q] at e
        have e : some x = some s0 := e
        cases e
        have h1 := List.all_eq_true.mp ok i h.1
        rw [q] at h1
        obtain ⟨o, g1, g2⟩ := S0.slot i _ q
        refine ⟨o, g1, ?_⟩
        cases s0 with
        | un => trivial
        | dat d => obtain ⟨v, a1, a2⟩ := g2; exact ⟨v, a1, a2.mono s⟩
        | cel k c => cases h1
        | exn c pl => cases h1
    · rename_i h
      have m : i ∉ vs := fun m => h ⟨m, (List.getElem?_eq_some_iff.mp e).1⟩
      obtain ⟨o, g1, g2⟩ := S.slot i s0 e
      rw [out m] at g1
      exact ⟨o, g1, g2⟩
  · obtain ⟨m1, f1⟩ := nc e1
    obtain ⟨m2, f2⟩ := nc e2
    rw [← out m1] at h1
    rw [← out m2] at h2
    exact S.dis i j _ _ _ _ p f1 f2 h1 h2
  · obtain ⟨k, c, h1, h2⟩ := S.pcs i p e
    refine ⟨k, c, ?_, h2⟩
    rw [restR_get, if_neg]
    · exact h1
    · intro z
      have := okOwn_np S0 ok i z.1
      rw [e] at this
      cases this
/-- the new list stands aside -/
def Fr.prot (fr : Fr) (D : Addr) (o : HO) : Fr := { fr with P := upd fr.P D o, F0 := fun b => if b = D then none else fr.F0 b }
theorem Rel.prot (S : Rel K ct fr F H σ ρ) {D : Addr} {o : HO} (h : H D = none) : Rel K ct (fr.prot D o) F (upd H D o) σ ρ := by
  have S1 := S.newC (o := o) h
  have fD := S.nn h
  have cD : ∀ {i : Nat} {k : CK} {c : CC} {p : Addr}, ρ[i]? = some (.cel k c) → σ[i]? = some (some (.ref p)) → p ≠ D := fun {i k c p} e1 e2 z => by
    obtain ⟨p', o', g1, g2⟩ := S.cell_at e1
    rw [g1] at e2
    cases e2
    rw [z, h] at g2
    cases g2
  refine ⟨S1.len, S1.fh, fun i s e => ?_, S1.dis, fun b u e => ?_, fun b hb h0 => ?_, S1.pcs⟩
  · obtain ⟨u, g1, g2⟩ := S1.slot i s e
    refine ⟨u, g1, ?_⟩
    cases s with
    | un => trivial
    | dat d => exact g2
    | cel k c =>
      obtain ⟨p, a1, a2, a3, a4, a5, a6⟩ := g2
      subst a1
      refine ⟨p, rfl, a2, ?_, a4, a5, a6⟩
      show upd fr.P D o p = none
      rw [upd_ne (cD e g1)]
      exact a3
    | exn c pl => exact g2
  · have e : upd fr.P D o b = some u := e
    by_cases q : b = D
    · subst q; rw [upd_same] at e; rw [upd_same]; exact e
    · rw [upd_ne q] at e; rw [upd_ne q]; exact S.keep b u e
  · by_cases q : b = D
    · subst q; exact fD
    · have h0 : (if b = D then none else fr.F0 b) = none := h0
      rw [if_neg q] at h0
      have hb : upd fr.P D o b ≠ none := hb
      rw [upd_ne q] at hb
      exact S.fro b hb h0
theorem Rel.protD {D : Addr} {o : HO} (S : Rel K ct (fr.prot D o) F H σ ρ) : F D = none ∧ H D = some o := by
  refine ⟨S.fro D ?_ ?_, S.keep D o ?_⟩
  · show upd fr.P D o D ≠ none
    rw [upd_same]; simp
  · show (if D = D then none else fr.F0 D) = none
    rw [if_pos rfl]
  · show upd fr.P D o D = some o
    rw [upd_same]
/-- the new list grows -/
theorem Rel.reprot {D : Addr} {o o' : HO} (S : Rel K ct (fr.prot D o) F H σ ρ) : Rel K ct (fr.prot D o') F (upd H D o') σ ρ := by
  obtain ⟨fD, hD⟩ := S.protD
  have ne : ∀ {b : Addr} {u : HO}, F b = some u → b ≠ D := fun {b u} e z => by rw [z, fD] at e; cases e
  refine ⟨S.len, fun b u e => by rw [upd_ne (ne e)]; exact S.fh b u e, fun i s e => ?_, S.dis, fun b u e => ?_, fun b hb h0 => ?_, S.pcs⟩
  · obtain ⟨u, g1, g2⟩ := S.slot i s e
    refine ⟨u, g1, ?_⟩
    cases s with
    | un => trivial
    | dat d => exact g2
    | cel k c =>
      obtain ⟨p, a1, a2, a3, a4, a5, a6⟩ := g2
      subst a1
      have pD : p ≠ D := fun z => by
        have a3 : upd fr.P D o p = none := a3
        rw [z, upd_same] at a3
        cases a3
      refine ⟨p, rfl, a2, ?_, a4, a5, a6.keep (Same.refl _) (by rw [upd_ne pD])⟩
      have a3 : upd fr.P D o p = none := a3
      show upd fr.P D o' p = none
      rw [upd_ne pD] at a3 ⊢
      exact a3
    | exn c pl => exact g2
  · have e : upd fr.P D o' b = some u := e
    by_cases q : b = D
    · subst q; rw [upd_same] at e; rw [upd_same]; exact e
    · rw [upd_ne q] at e; rw [upd_ne q]; exact S.keep b u (by show upd fr.P D o b = some u; rw [upd_ne q]; exact e)
  · refine S.fro b ?_ h0
    have hb : upd fr.P D o' b ≠ none := hb
    show upd fr.P D o b ≠ none
    by_cases q : b = D
    · subst q; rw [upd_same]; simp
    · rw [upd_ne q] at hb ⊢; exact hb
/-- the new list is done -/
theorem Rel.unprot {D : Addr} {o : HO} {c : CC} (hP : fr.P D = none) (hp : ∀ j, fr.pa j ≠ some D) (S : Rel K ct (fr.prot D o) F H σ ρ) (r : CelR K ct.ad F H D c) : Rel K ct fr F H σ ρ ∧ Fresh K ct.ad fr F H σ ρ D c := by
  obtain ⟨fD, hD⟩ := S.protD
  have nP : ∀ {p : Addr}, (fr.prot D o).P p = none → p ≠ D ∧ fr.P p = none := fun {p} z => by
    have z : upd fr.P D o p = none := z
    by_cases q : p = D
    · subst q; rw [upd_same] at z; cases z
    · rw [upd_ne q] at z; exact ⟨q, z⟩
  refine ⟨⟨S.len, S.fh, fun i s e => ?_, S.dis, fun b u e => S.keep b u ?_, fun b hb h0 => ?_, S.pcs⟩, fD, hP, hp, r, fun i k c' e1 e2 => ?_⟩
  · obtain ⟨u, g1, g2⟩ := S.slot i s e
    refine ⟨u, g1, ?_⟩
    cases s with
    | un => trivial
    | dat d => exact g2
    | cel k c => obtain ⟨p, a1, a2, a3, a4, a5, a6⟩ := g2; exact ⟨p, a1, a2, (nP a3).2, a4, a5, a6⟩
    | exn c pl => exact g2
  · show upd fr.P D o b = some u
    rw [upd_ne (fun z => by rw [z, hP] at e; cases e)]; exact e
  · have q : b ≠ D := fun z => hb (by rw [z]; exact hP)
    refine S.fro b ?_ ?_
    · show upd fr.P D o b ≠ none
      rw [upd_ne q]; exact hb
    · show (if b = D then none else fr.F0 b) = none
      rw [if_neg q]; exact h0
  · obtain ⟨u, g1, p, a1, a2, a3, a4, a5, a6⟩ := S.slot i _ e1
    rw [g1] at e2
    subst a1
    cases e2
    exact (nP a3).1 rfl
theorem noErI {α : Type} {m : M α} {r : Ex α} {ρ1 : List Sl} (h : noEr m ρ = some (r, ρ1)) : ∃ a, r = .ok a ∧ m ρ = some (.ok a, ρ1) := by
  unfold noEr at h
  split at h
  · rename_i a ρ' e; cases h; exact ⟨a, rfl, e⟩
  · cases h
theorem bndI {α β : Type} {m : M α} {k : α → M β} {r : Ex β × List Sl} (h : bnd (noEr m) k ρ = some r) : ∃ a ρ1, m ρ = some (.ok a, ρ1) ∧ k a ρ1 = some r := by
  unfold bnd at h
  cases e : noEr m ρ with
  | none =>
    rw [e] at h
    cases h
  | some x =>
    obtain ⟨r1, ρ1⟩ := x
    obtain ⟨a, rfl, e2⟩ := noErI e
    rw [e] at h
    exact ⟨a, ρ1, e2, h⟩
theorem datI {β : Type} {m : Ev} {k : D → M β} {r : Ex β × List Sl} (h : bnd (dat (noEr m)) k ρ = some r) : (∃ d ρ1, m ρ = some (.ok (.d d), ρ1) ∧ k d ρ1 = some r) ∨ ∃ c d ρ1, m ρ = some (.ok (.c c), ρ1) ∧ c.froz = some d ∧ k d ρ1 = some r := by
  have e : bnd (dat (noEr m)) k = bnd (noEr m) fun r => bnd (match r with | Rv.d d => pur d | Rv.c c => PL.opt c.froz) k := by
    funext ρ
    unfold PL.dat PL.bnd
    cases em : noEr m ρ with
    | none => rfl
    | some x =>
      obtain ⟨r1, ρ1⟩ := x
      cases r1 with
      | ok a => cases a <;> rfl
      | er c pl => rfl
  rw [e] at h
  obtain ⟨a, ρ1, h1, h2⟩ := bndI h
  cases a with
  | d d => exact .inl ⟨d, ρ1, h1, h2⟩
  | c c =>
    cases ef : c.froz with
    | none => rw [show bnd (match Rv.c c with | Rv.d d => pur d | Rv.c c => PL.opt c.froz) k ρ1 = bnd (PL.opt c.froz) k ρ1 from rfl, ef] at h2; cases h2
    | some d =>
      rw [show bnd (match Rv.c c with | Rv.d d => pur d | Rv.c c => PL.opt c.froz) k ρ1 = bnd (PL.opt c.froz) k ρ1 from rfl, ef] at h2
      exact .inr ⟨c, d, ρ1, h1, ef, h2⟩
abbrev WF : WX := fun _ _ _ _ => False
theorem wipe_wipe (σ : L2.St) (vs : List Nat) : L2.wipe (L2.wipe σ vs) vs = L2.wipe σ vs := by
  refine List.ext_getElem? fun i => ?_
  rw [wipe_get, wipe_get, wipe_length]
  by_cases h : i ∈ vs ∧ i < σ.length
  · rw [if_pos h, if_pos h]
  · rw [if_neg h, if_neg h]
theorem w_lc {vs : List Nat} {it : M (List D)} {tg : Tg} {c : M Bool} {e : Ev} {Q : VK} (hv : ∀ i ∈ tg.sl, i ∈ vs) (h : TP K ct W (evLc vs it tg c e) σ H Q) : tLc (TIt K ct W it) (TGt K ct tg) (TB K ct WF c) (TP K ct WF e) vs σ H Q := by
  obtain ⟨fr, F, ρ, S, h⟩ := h
  refine Tat.bnd h S fun F1 H1 ρ1 J xs s1 S1 r1 h => ?_
  intro D hD
  obtain ⟨r0, ρ0, e0, q0⟩ := h
  unfold lcRun at e0
  split at e0
  · rename_i ok
    have np := okOwn_np S1 ok
    cases ego : lcGo vs tg c e xs [] (wipeR ρ1 vs) with
    | none => rw [ego] at e0; cases e0
    | some y =>
      obtain ⟨ry, ρf⟩ := y
      rw [ego] at e0
      cases ry with
      | er c pl => cases e0
      | ok accf =>
        cases e0
        have dP := S1.np hD
        have dp : ∀ j, fr.pa j ≠ some D := fun j => (S1.fresh (o := .lst []) (c := .lst []) hD ⟨[], upd_same, .nil⟩).2.2.1 j
        refine ⟨fun i m H => m = xs.length - i ∧ i ≤ xs.length ∧ ∃ F2 ρ2 vacc acc, Same F1 F2 ∧ Rps K ct.ad F2 vacc acc ∧ Rel K ct (fr.prot D (.lst vacc)) F2 H (L2.wipe σ vs) ρ2 ∧ lcGo vs tg c e (xs.drop i) acc ρ2 = some (.ok accf, ρf),
          ⟨xs.length, by simp, Nat.zero_le _, F1, _, [], [], Same.refl _, .nil, (S1.wipe np).prot hD, ego⟩, ?_⟩
        rintro i m H2 ⟨rfl, hi, F2, ρ2, vacc, acc, s2, ra, S2, eg⟩
        have it := r1 F2 H2 s2 S2.fh i
        by_cases lt : i < xs.length
        · refine .inr ?_
          obtain ⟨go, yl⟩ := it.1 xs[i] (List.getElem?_eq_getElem lt)
          refine ⟨go, fun H' => ∃ F2 ρ2 vacc acc, Same F1 F2 ∧ Rps K ct.ad F2 vacc acc ∧ Rel K ct (fr.prot D (.lst vacc)) F2 H' (L2.wipe σ vs) ρ2 ∧ lcGo vs tg c e (xs.drop (i + 1)) acc ρ2 = some (.ok accf, ρf), fun H' z => ⟨xs.length - (i + 1), by omega, rfl, lt, z⟩, fun v H3 y => ?_⟩
          obtain ⟨F3, al, rp⟩ := yl v H3 y
          have S3 := S2.al al
          rw [List.drop_eq_getElem_cons lt] at eg
          unfold lcGo at eg
          cases ea : asgT tg xs[i] ρ2 with
          | none => rw [ea] at eg; cases eg
          | some x =>
            obtain ⟨rx, ρ4⟩ := x
            rw [ea] at eg
            cases rx with
            | er c pl => cases eg
            | ok fl =>
              cases fl with
              | nx =>
                refine ⟨fr.prot D (.lst vacc), F3, ρ2, xs[i], ρ4, S3, rp, ea, fun σ4 F4 H4 s4 o4 S4 => ⟨?_, ?_⟩⟩
                · rw [(o4.sub hv).wipe, wipe_wipe]
                · have wk : L2.wipe σ4 vs = L2.wipe σ vs := by rw [(o4.sub hv).wipe, wipe_wipe]
                  have back : ∀ {F5 H5 ρ5 vacc' acc'}, Same F4 F5 → Rps K ct.ad F5 vacc' acc' → Rel K ct (fr.prot D (.lst vacc')) F5 H5 σ4 ρ5 → lcGo vs tg c e (xs.drop (i + 1)) acc' (wipeR ρ5 vs) = some (.ok accf, ρf) →
                      ∃ F2 ρ2 vacc acc, Same F1 F2 ∧ Rps K ct.ad F2 vacc acc ∧ Rel K ct (fr.prot D (.lst vacc)) F2 H5 (L2.wipe σ vs) ρ2 ∧ lcGo vs tg c e (xs.drop (i + 1)) acc ρ2 = some (.ok accf, ρf) := fun {F5 H5 ρ5 vacc' acc'} s5 ra5 S5 e5 =>
                    ⟨F5, _, vacc', acc', ((s2.trans al.1).trans s4).trans s5, ra5, by rw [← wk]; exact S5.wipe np, e5⟩
                  have eg : bnd (noEr c) (fun b => if b then bnd (dat (noEr e)) (fun d => if acc.length < 16777216 then (fun ρ => lcGo vs tg c e (xs.drop (i + 1)) (acc ++ [d]) (wipeR ρ vs)) else fai) else fun ρ => lcGo vs tg c e (xs.drop (i + 1)) acc (wipeR ρ vs)) ρ4 = some (.ok accf, ρf) := eg
                  obtain ⟨b, ρ5, ec, eg⟩ := bndI eg
                  refine ⟨fr.prot D (.lst vacc), F4, ρ4, S4, .ok b, ρ5, ec, fun v F5 H5 s5 S5 rb => ?_⟩
                  have rb : v = b := rb
                  subst rb
                  cases v with
                  | false =>
                    show if false = true then _ else _
                    (rw [if_neg Bool.false_ne_true])
                    exact back s5 (ra.mono (((al.1).trans s4).trans s5)) S5 eg
                  | true =>
                    show if true = true then _ else _
                    rw [if_pos rfl]
                    have fin : ∀ {d ρ6}, (if acc.length < 16777216 then (fun ρ => lcGo vs tg c e (xs.drop (i + 1)) (acc ++ [d]) (wipeR ρ vs)) else fai) ρ6 = some (Ex.ok accf, ρf) → acc.length < 16777216 ∧ lcGo vs tg c e (xs.drop (i + 1)) (acc ++ [d]) (wipeR ρ6 vs) = some (.ok accf, ρf) := fun {d ρ6} z => by
                      split at z
                      · rename_i w; exact ⟨w, z⟩
                      · cases z
                    rcases datI eg with ⟨d, ρ6, ee, eg⟩ | ⟨cc, d, ρ6, ee, ef, eg⟩
                    · obtain ⟨al6, eg⟩ := fin eg
                      refine ⟨fr.prot D (.lst vacc), F5, ρ5, S5, _, ρ6, ee, fun v F6 H6 s6 S6 rv => ?_⟩
                      have rv : Rp K ct.ad F6 v d := rv
                      exact ⟨vacc, S6.protD.2, by rw [ra.len]; exact al6, back (s5.trans s6) ((ra.mono (((al.1.trans s4).trans s5).trans s6)).snoc rv) S6.reprot eg⟩
                    · obtain ⟨al6, eg⟩ := fin eg
                      refine ⟨fr.prot D (.lst vacc), F5, ρ5, S5, _, ρ6, ee, fun v F6 H6 s6 S6 rv => ?_⟩
                      obtain ⟨p, ev, fp⟩ := rv
                      subst ev
                      obtain ⟨F7, s7, rp7, S7⟩ := fp.frz S6 ef
                      exact ⟨vacc, S7.protD.2, by rw [ra.len]; exact al6, back ((s5.trans s6).trans s7) ((ra.mono ((((al.1.trans s4).trans s5).trans s6).trans s7)).snoc rp7) S7.reprot eg⟩
              | _ => cases eg
        · refine .inl ⟨it.2 (by omega), ?_⟩
          rw [List.drop_eq_nil_of_le (by omega)] at eg
          have eg : pur acc ρ2 = some (.ok accf, ρf) := eg
          cases eg
          obtain ⟨S5, fr5⟩ := S2.unprot dP dp (c := .lst accf) ⟨vacc, S2.protD.2, ra⟩
          have S6 := S1.rest s2 ok S5
          refine q0 _ F2 H2 s2 S6 ⟨D, rfl, fr5.1, fr5.2.1, fr5.2.2.1, fr5.2.2.2.1, fun j k c' z1 z2 => ?_⟩
          obtain ⟨p', o', g1, g2⟩ := S6.cell_at z1
          rw [g1] at z2
          cases z2
          rw [restR_get] at z1
          split at z1
          · rename_i w
            have h1 := List.all_eq_true.mp ok j w.1
            cases q : ρ1[j]? with
            | none => rw [q] at z1; cases z1
            | some x =>
              rw [q] at z1 h1
              have z1 : some x = some (Sl.cel k c') := z1
              cases z1
              cases h1
          · rename_i w
            have m : j ∉ vs := fun m => w ⟨m, (List.getElem?_eq_some_iff.mp z1).1⟩
            refine fr5.2.2.2.2 j k c' z1 ?_
            rw [wipe_get, if_neg (fun z => m z.1)]
            exact g1
  · cases e0
end PL
end
section
namespace PL
open PySem PySem.Spec PyProof.Rows L2
variable {K : PySem.W.Frag} {ad : Cl → Addr} {ct : CT}
variable {fr : Fr} {F F' H H' : Hp} {σ : L2.St} {ρ : List Sl} {W : WX}
section
variable {X : Cx}
theorem pts_n : PTs X [] (TB K ct W (pur true)) := pts_nil.imp fun σ H Q h => by
  obtain ⟨fr, F, ρ, S, h⟩ := h
  exact Tat.ok (a := true) h true F H (Same.refl _) S rfl
theorem pts_1 {c : Expr} {t : M Bool} (h : PT X c (TB K ct W t)) : PTs X [c] (TB K ct W t) := pts_one h
theorem pp_lc {elt tg iter : Expr} {ifs : List Expr} {scope : Scope} {own : List (Str × Nat)} {pos : Pos} {it : M (List D)} {t : Tg} {c : M Bool} {e : Ev} (hc : X.calm = true) (hN : X.N.Nodup) (hi : PI X tg iter (TIt K ct W it)) (ok : BlkOk X.N X.env.scope scope own)
    (hg : ∀ (s : Shared) (H : Hp) (C : Addr) (cl : List (Str × Addr)) (fp : List Addr), PG (X.blk s H scope (compEnvC scope cl C X.env) fp) tg (TGt K ct t)) (ht : ∀ (s : Shared) (H : Hp) (C : Addr) (cl : List (Str × Addr)) (fp : List Addr), PTs (X.blk s H scope (compEnvC scope cl C X.env) fp) ifs (TB K ct WF c))
    (he : ∀ (s : Shared) (H : Hp) (C : Addr) (cl : List (Str × Addr)) (fp : List Addr), PE (X.blk s H scope (compEnvC scope cl C X.env) fp) elt (TP K ct WF e)) (hv : ∀ i ∈ t.sl, i ∈ own.map (·.2) := by decide) (hs : ∀ x, foldedSetIterable iter X.env x = pure x := by intro _; rfl) :
    PE X (.ListComp elt [⟨tg, iter, ifs, 0⟩] scope pos) (TP K ct W (evLc (own.map (·.2)) it t c e)) := (pe_lc hc hN hi ok hg ht he hs).imp fun σ H Q => w_lc hv
theorem s_setLc {i : Nat} {y : Str} {py : Pos} {elt tg iter : Expr} {ifs : List Expr} {scope : Scope} {own : List (Str × Nat)} {pos spos : Pos} {it : M (List D)} {t : Tg} {c : M Bool} {e : Ev} (hc : X.calm = true) (hN : X.N.Nodup) (hy : X.N[i]? = some y) (hyl : X.env.scope.names.lookup y = some .local)
    (hsw : swapsWith (.ListComp elt [⟨tg, iter, ifs, 0⟩] scope pos) (some (.Name y py)) spos.line X.env = pure true) (hi : PI X tg iter (TIt K ct W it)) (ok : BlkOk X.N X.env.scope scope own)
    (hg : ∀ (s : Shared) (H : Hp) (C : Addr) (cl : List (Str × Addr)) (fp : List Addr), PG (X.blk s H scope (compEnvC scope cl C X.env) fp) tg (TGt K ct t)) (ht : ∀ (s : Shared) (H : Hp) (C : Addr) (cl : List (Str × Addr)) (fp : List Addr), PTs (X.blk s H scope (compEnvC scope cl C X.env) fp) ifs (TB K ct WF c))
    (he : ∀ (s : Shared) (H : Hp) (C : Addr) (cl : List (Str × Addr)) (fp : List Addr), PE (X.blk s H scope (compEnvC scope cl C X.env) fp) elt (TP K ct WF e)) (hv : ∀ i ∈ t.sl, i ∈ own.map (·.2) := by decide) (hs : ∀ x, foldedSetIterable iter X.env x = pure x := by intro _; rfl) :
    PS X (.Assign [.Name y py] (.ListComp elt [⟨tg, iter, ifs, 0⟩] scope pos) spos) (TSt K ct W (evAsg i (evLc (own.map (·.2)) it t c e))) := (ps_setLc hc hN hy hyl hsw hi ok hg ht he hs).imp fun D σ H ⟨fr, F, ρ, S, h⟩ => by
  show tLc _ _ _ _ _ σ H _
  refine w_lc hv ?_
  exact h.dat S fun F1 H1 ρ1 v d s1 S1 r1 h => h.setD S1 r1
theorem s_setLcC {i : Nat} {y : Str} {py : Pos} {elt tg iter : Expr} {ifs : List Expr} {scope : Scope} {own : List (Str × Nat)} {pos spos : Pos} {it : M (List D)} {t : Tg} {c : M Bool} {e : Ev} (hc : X.calm = true) (hN : X.N.Nodup) (hy : X.N[i]? = some y) (hyl : X.env.scope.names.lookup y = some .local)
    (hsw : swapsWith (.ListComp elt [⟨tg, iter, ifs, 0⟩] scope pos) (some (.Name y py)) spos.line X.env = pure true) (hi : PI X tg iter (TIt K ct W it)) (ok : BlkOk X.N X.env.scope scope own)
    (hg : ∀ (s : Shared) (H : Hp) (C : Addr) (cl : List (Str × Addr)) (fp : List Addr), PG (X.blk s H scope (compEnvC scope cl C X.env) fp) tg (TGt K ct t)) (ht : ∀ (s : Shared) (H : Hp) (C : Addr) (cl : List (Str × Addr)) (fp : List Addr), PTs (X.blk s H scope (compEnvC scope cl C X.env) fp) ifs (TB K ct WF c))
    (he : ∀ (s : Shared) (H : Hp) (C : Addr) (cl : List (Str × Addr)) (fp : List Addr), PE (X.blk s H scope (compEnvC scope cl C X.env) fp) elt (TP K ct WF e)) (hv : ∀ i ∈ t.sl, i ∈ own.map (·.2) := by decide) (hs : ∀ x, foldedSetIterable iter X.env x = pure x := by intro _; rfl) :
    PS X (.Assign [.Name y py] (.ListComp elt [⟨tg, iter, ifs, 0⟩] scope pos) spos) (TSt K ct W (evAsgC i (evLc (own.map (·.2)) it t c e))) := (ps_setLc hc hN hy hyl hsw hi ok hg ht he hs).imp fun D σ H ⟨fr, F, ρ, S, h⟩ => by
  show tLc _ _ _ _ _ σ H _
  refine w_lc hv ?_
  refine Sat.bnd K ct h S (fun _ _ _ _ z => z) fun F1 H1 ρ1 v r s1 S1 r1 h => ?_
  cases r with
  | d d => obtain ⟨_, _, e, _⟩ := h; cases e
  | c c => obtain ⟨p, ev, fp⟩ := r1; subst ev; exact Sat.setC h S1 fp
end
/-! ### new objects -/
theorem Rel.push (S : Rel K ct fr F H σ ρ) {p : Addr} {c : CC} (f : Fresh K ct.ad fr F H σ ρ p c) : Rel K ct fr F H (σ ++ [some (.ref p)]) (ρ ++ [.cel .own c]) := by
  obtain ⟨f1, f2, f3, f4, f5⟩ := f
  have l := S.len
  have old : ∀ {i : Nat} {s : Sl}, (ρ ++ [Sl.cel .own c])[i]? = some s → (i < ρ.length ∧ ρ[i]? = some s) ∨ (i = ρ.length ∧ s = .cel .own c) := fun {i s} e => by
    by_cases q : i < ρ.length
    · rw [List.getElem?_append_left q] at e; exact .inl ⟨q, e⟩
    · rw [List.getElem?_append_right (by omega)] at e
      have : i - ρ.length = 0 := by
        cases w : i - ρ.length with
        | zero => rfl
        | succ n => rw [w] at e; simp at e
      rw [this] at e
      cases e
      exact .inr ⟨by omega, rfl⟩
  have get : ∀ {i : Nat}, i < ρ.length → (σ ++ [some (V.ref p)])[i]? = σ[i]? := fun {i} q => List.getElem?_append_left (by omega)
  have last : (σ ++ [some (V.ref p)])[ρ.length]? = some (some (V.ref p)) := by rw [← l]; simp
  refine ⟨by simp [l], S.fh, fun i s e => ?_, fun i j k c1 k' c2 q e1 e2 h1 h2 => ?_, S.keep, S.fro, fun i q e => ?_⟩
  · rcases old e with ⟨q, e⟩ | ⟨rfl, rfl⟩
    · obtain ⟨o, g1, g2⟩ := S.slot i s e
      exact ⟨o, by rw [get q]; exact g1, g2⟩
    · exact ⟨_, last, p, rfl, f1, f2, (fun z => by cases z), (fun _ => f3), f4⟩
  · rcases old e1 with ⟨q1, e1⟩ | ⟨rfl, z1⟩
    · rw [get q1] at h1
      rcases old e2 with ⟨q2, e2⟩ | ⟨rfl, z2⟩
      · rw [get q2] at h2
        exact S.dis i j _ _ _ _ q e1 e2 h1 h2
      · rw [last] at h2
        cases h2
        exact absurd h1 (f5 _ _ _ e1)
    · rw [last] at h1
      cases h1
      rcases old e2 with ⟨q2, e2⟩ | ⟨rfl, z2⟩
      · rw [get q2] at h2
        exact absurd h2 (f5 _ _ _ e2)
      · rfl
  · obtain ⟨k, c1, h1, h2⟩ := S.pcs i q e
    exact ⟨k, c1, by rw [List.getElem?_append_left (List.getElem?_eq_some_iff.mp h1).1]; exact h1, h2⟩
theorem Rel.pop {o : Option V} (S : Rel K ct fr F H (σ ++ [o]) ρ) (np : fr.pa σ.length = none) : Rel K ct fr F H σ (ρ.take σ.length) := by
  have l := S.len
  rw [List.length_append] at l
  have l : σ.length + 1 = ρ.length := l
  have get : ∀ {i : Nat} {s : Sl}, (ρ.take σ.length)[i]? = some s → i < σ.length ∧ ρ[i]? = some s := fun {i s} e => by
    rw [List.getElem?_take] at e
    split at e
    · rename_i q; exact ⟨q, e⟩
    · cases e
  have gs : ∀ {i : Nat}, i < σ.length → (σ ++ [o])[i]? = σ[i]? := fun {i} q => List.getElem?_append_left q
  refine ⟨by rw [List.length_take]; omega, S.fh, fun i s e => ?_, fun i j k c1 k' c2 q e1 e2 h1 h2 => ?_, S.keep, S.fro, fun i q e => ?_⟩
  · obtain ⟨q, e⟩ := get e
    obtain ⟨u, g1, g2⟩ := S.slot i s e
    exact ⟨u, by rw [← gs q]; exact g1, g2⟩
  · obtain ⟨q1, e1⟩ := get e1
    obtain ⟨q2, e2⟩ := get e2
    exact S.dis i j _ _ _ _ q e1 e2 (by rw [gs q1]; exact h1) (by rw [gs q2]; exact h2)
  · obtain ⟨k, c1, h1, h2⟩ := S.pcs i q e
    have il := (List.getElem?_eq_some_iff.mp h1).1
    have : i ≠ σ.length := fun z => by rw [z, np] at e; cases e
    exact ⟨k, c1, by rw [List.getElem?_take, if_pos (by omega)]; exact h1, h2⟩
theorem Rel.popC {p : Addr} {c : CC} (S : Rel K ct fr F H (σ ++ [some (.ref p)]) ρ) (np : fr.pa σ.length = none) (e : ρ[σ.length]? = some (.cel .own c)) : Fresh K ct.ad fr F H σ (ρ.take σ.length) p c := by
  have last : (σ ++ [some (V.ref p)])[σ.length]? = some (some (V.ref p)) := by simp
  obtain ⟨u, g1, p', a1, a2, a3, a4, a5, a6⟩ := S.slot _ _ e
  rw [last] at g1
  subst a1
  cases g1
  refine ⟨a2, a3, a5 rfl, a6, fun i k c' e1 e2 => ?_⟩
  rw [List.getElem?_take] at e1
  split at e1
  · rename_i q
    have := S.dis i σ.length _ _ _ _ p e1 e (by rw [List.getElem?_append_left q]; exact e2) last
    omega
  · cases e1
/-- C(..): a new object, then its __init__ -/
def mkG (n : Nat) (G : Fn) (c : Cl) (ar : List Ar) : Ev := fun ρ => match callG n G (.c ρ.length :: ar) (ρ ++ [.cel .own (.obj c [])]) with
  | some (.ok (.d .non), ρ1) => (match ρ1[ρ.length]? with | some (.cel .own c') => some (.ok (.c c'), ρ1.take ρ.length) | _ => none)
  | some (.er c pl, ρ1) => some (.er c pl, ρ1.take ρ.length)
  | _ => none
def evMk (n : Nat) (G : Fn) (c : Cl) (as : List AE) (ds : List D := []) : Ev := bnd (evAs as) fun ar => mkG n G c (ar ++ ds.map .d)
def evMk0 (n : Nat) (G : Fn) (c : Cl) (as : List AE) (ds : List D := []) : Ev := bnd (evAs as) fun ar => noEr (mkG n G c (ar ++ ds.map .d))
theorem RAs.push {F : Hp} {σ : L2.St} {o : Option V} : ∀ {vs : List V} {as : List Ar}, RAs K ct.ad F σ vs as → RAs K ct.ad F (σ ++ [o]) vs as
  | _, _, .nil => .nil
  | _, .d _ :: _, .cons h r => .cons h (RAs.push r)
  | _, .c j :: _, .cons h r => .cons (by
      have h : σ[j]? = some (some _) := h
      show (σ ++ [o])[j]? = _
      rw [List.getElem?_append_left (List.getElem?_eq_some_iff.mp h).1]
      exact h) (RAs.push r)
theorem Tat.mk {n : Nat} {G : Fn} {c : Cl} {vs : List V} {ar : List Ar} {Q : VK} {E : XK} (h : Tat K ct (RV K ct.ad) W fr F ρ (mkG n G c ar) σ Q) (S : Rel K ct fr F H σ ρ) (r : RAs K ct.ad F σ vs ar) (hE : ∀ cls d H', W cls d σ H' → E cls d H')
    (x dx : Addr) (hx : H x = none) (hdx : H dx = none) (ne : dx ≠ x) : spP K ct.ad n G (.ref x :: vs) (upd (upd H dx (.own x)) x (.ins (ct.ad c) dx [])) (fun v H2 => v = .non ∧ Q (.ref x) H2) E := by
  have S1 := S.newC (o := .own x) hdx
  have hx1 : upd H dx (.own x) x = none := by rw [upd_ne ne.symm]; exact hx
  have S2 := S1.newC (o := .ins (ct.ad c) dx []) hx1
  have f2 := S1.fresh (o := .ins (ct.ad c) dx []) (c := .obj c []) hx1 ⟨dx, [], upd_same, .nil⟩
  have S3 := S2.push f2
  have l := S.len
  have np : fr.pa σ.length = none := by
    cases z : fr.pa σ.length with
    | none => rfl
    | some q =>
      obtain ⟨k1, c1, h1, h2⟩ := S.pcs _ q z
      have := (List.getElem?_eq_some_iff.mp h1).1
      omega
  have last : (σ ++ [some (V.ref x)])[ρ.length]? = some (some (V.ref x)) := by rw [← l]; simp
  refine Tat.call (W := fun cls d _ H' => W cls d σ H') (ar := .c ρ.length :: ar) (fr := fr) (F := F) (ρ := ρ ++ [.cel .own (.obj c [])]) (σ := σ ++ [some (.ref x)]) ?_ S3 (RAs.cons (show RA1 K ct.ad F (σ ++ [some (V.ref x)]) (.ref x) (.c ρ.length) from last) (RAs.push (o := some (V.ref x)) r)) hE
  obtain ⟨r0, ρ0, e, q⟩ := h
  unfold mkG at e
  cases ec : callG n G (.c ρ.length :: ar) (ρ ++ [.cel .own (.obj c [])]) with
  | none => rw [ec] at e; cases e
  | some y =>
    obtain ⟨ry, ρ1⟩ := y
    rw [ec] at e
    refine ⟨ry, ρ1, ec, ?_⟩
    cases ry with
    | er c' pl =>
      cases e
      intro d F' H' s' S' pr
      rw [← l] at q
      exact q d F' H' s' (S'.pop np) pr
    | ok rv =>
      cases rv with
      | c c' => cases e
      | d d =>
        cases d with
        | non =>
          intro v F' H' s' S' rr
          have rr : Rp K ct.ad F' v .non := rr
          cases rr
          refine ⟨rfl, ?_⟩
          have e : (match ρ1[ρ.length]? with | some (.cel .own c') => some (Ex.ok (Rv.c c'), ρ1.take ρ.length) | _ => none) = some (r0, ρ0) := e
          split at e
          · rename_i c' e1
            cases e
            rw [← l] at q e1
            exact q _ F' H' s' (S'.pop np) ⟨x, rfl, S'.popC np e1⟩
          · cases e
        | _ => cases e
section
variable {X : Cx} {CX : CXT} {k : Nat} {f : Addr} {fd : FuncData} {ps : List Str} {x : Str} {p pos : Pos} {e : Expr} {es : List Expr} {n : Nat} {G : Fn} {as : List AE} {dvs : List V} {dds : List D} {ds : List Value}
theorem pp_make (c : Cl) (M : Mk X.K (ct.ad c) f) (Fn : FnOk X.prog X.w X.K X.mg X.base CX k f fd ps (spP K ct.ad n G)) (hr : Room (k + 1) X.A) (hg : Gl X x) (hm : X.mg x = some (.ref (ct.ad c))) (hb : Binds X.K fd ps ds) (hd : Vals dvs ds) (hx : Passes CX X E0)
    (ha : PA X (e :: es) (TAr K ct W (evAs as))) (hdf : Dfs dvs dds) (hdb : (x == ("__debug__" : Str)) = false := by decide) (he : starEach (e :: es) X.env = (false, eval e X.env) :: starEach es X.env := by rfl) (hpl : (backTo pos (starEach es X.env)).any (·.1) = false := by rfl) :
    PE X (.Call (.Name x p) (e :: es) [] pos) (TP K ct W (evMk0 n G c as dds)) := (pe_make M Fn hr hg hm hb hd hx ha hdb he hpl).imp fun σ H Q h => by
  obtain ⟨fr, F, ρ, S, h⟩ := h
  refine Tat.bnd h S fun F1 H1 ρ1 vs ar s1 S1 r1 h => ?_
  intro x dx h1 h2 h3
  exact Tat.mk (W := WF) h.noEr S1 (RAs.dfs hdf r1) (fun _ _ _ z => z) x dx h1 h2 h3
theorem pp_makeS (c : Cl) (M : Mk X.K (ct.ad c) f) (Fn : FnOk X.prog X.w X.K X.mg X.base (L2.CX X.prog X.w) k f fd ps (spP K ct.ad n G)) (tk : Takes X W) (hr : Room (k + 1) X.A) (hg : Gl X x) (hm : X.mg x = some (.ref (ct.ad c))) (hb : Binds X.K fd ps ds) (hd : Vals dvs ds)
    (ha : PA X (e :: es) (TAr K ct W (evAs as))) (hdf : Dfs dvs dds) (hdb : (x == ("__debug__" : Str)) = false := by decide) (he : starEach (e :: es) X.env = (false, eval e X.env) :: starEach es X.env := by rfl) (hpl : (backTo pos (starEach es X.env)).any (·.1) = false := by rfl) :
    PE X (.Call (.Name x p) (e :: es) [] pos) (TP K ct W (evMk n G c as dds)) := (OW.pe_makeS M Fn hr hg hm hb hd (fun σ => passAt tk σ) ha hdb he hpl).imp fun σ H Q h => by
  obtain ⟨fr, F, ρ, S, h⟩ := h
  refine Tat.bnd h S fun F1 H1 ρ1 vs ar s1 S1 r1 h => ?_
  intro x dx h1 h2 h3
  exact Tat.mk h S1 (RAs.dfs hdf r1) (fun _ _ _ z => z) x dx h1 h2 h3
end
/-! ### lists that change -/
def modL (j : Nat) (f : List D → Option (D × List D)) : Ev := fun ρ => match ρ[j]? with
  | some (.cel k (.lst xs)) => (match f xs with | some (r, ys) => some (.ok (.d r), ρ.set j (.cel k (.lst ys))) | none => none)
  | _ => none
def isL (j : Nat) : Ev := fun ρ => match ρ[j]? with | some (.cel _ (.lst _)) => some (.ok (.d .non), ρ) | _ => none
/-- o.m(..) of a list in slot j -/
def evBmL (j : Nat) (f : List D → List D → Option (D × List D)) (es : List DE) : Ev := bnd (isL j) fun _ => bnd (evDs es) fun ds => modL j fun xs => f xs ds
theorem Tat.isL {δ γ : Type} {R' : Rel3 δ γ} {j : Nat} {k : Rv → M γ} {Q : δ → Hp → Prop} (h : Tat K ct R' W fr F ρ (PL.bnd (PL.isL j) k) σ Q) (S : Rel K ct fr F H σ ρ) :
    ∃ p vs, σ[j]? = some (some (.ref p)) ∧ H p = some (.lst vs) ∧ Tat K ct R' W fr F ρ (k (.d .non)) σ Q := by
  obtain ⟨r, ρ', e, q⟩ := h
  unfold PL.bnd PL.isL at e
  split at e
  · rename_i a ρ1 e1
    split at e1
    · rename_i k0 xs e2
      cases e1
      obtain ⟨o, g1, p, a1, a2, a3, a4, a5, vs, a6, a7⟩ := S.slot j _ e2
      subst a1
      exact ⟨p, vs, g1, a6, r, ρ', e, q⟩
    · cases e1
  · rename_i c pl ρ1 e1
    split at e1 <;> cases e1
  · cases e
variable (K ad) in
/-- what a list's method does -/
def OL (r : V → List V → Hp → VK → Prop) (f : List D → List D → Option (D × List D)) : Prop := ∀ {F H : Hp} {p : Addr} {vs us : List V} {xs ds ys : List D} {z : D} {Q : VK}, Same F H → H p = some (.lst vs) → Rps K ad F vs xs → Rps K ad F us ds → f xs ds = some (z, ys) →
  (∀ v vs', Rp K ad F v z → Rps K ad F vs' ys → Q v (upd H p (.lst vs'))) → r (.ref p) us H Q
theorem w_bmL {j : Nat} {r : V → List V → Hp → VK → Prop} {f : List D → List D → Option (D × List D)} {es : List DE} {Q : VK} (O : OL K ct.ad r f) (h : TP K ct W (evBmL j f es) σ H Q) : tBM K "list" r (tVar j) (TD K ct W (evDs es)) σ H Q := by
  obtain ⟨fr, F, ρ, S, h⟩ := h
  obtain ⟨p, vs, h1, h2, h⟩ := Tat.isL h S
  refine ⟨_, h1, .inl ⟨rfl, vs, SqL.of h2⟩, ?_⟩
  refine Tat.bnd h S fun F1 H1 ρ1 us ds s1 S1 r1 h => ?_
  obtain ⟨r0, ρ', e, q⟩ := h
  unfold modL at e
  split at e
  · rename_i k xs e2
    obtain ⟨o, g1, p', a1, a2, a3, a4, a5, vs', a6, a7⟩ := S1.slot j _ e2
    rw [h1] at g1
    subst a1
    cases g1
    split at e
    · rename_i z ys ef
      cases e
      exact O S1.fh a6 a7 r1 ef fun v vs2 rv rvs => q v F1 _ (Same.refl _) (S1.updC e2 h1 rfl ⟨vs2, upd_same, rvs⟩) rv
    · cases e
  · cases e
def fApp : List D → List D → Option (D × List D) | xs, [d] => if xs.length < 16777216 then some (.non, xs ++ [d]) else none | _, _ => none
def fIns : List D → List D → Option (D × List D) | xs, [.int i, d] => if xs.length < 16777216 ∧ 0 ≤ i ∧ i < 2 ^ 63 then some (.non, xs.take i.toNat ++ [d] ++ xs.drop i.toNat) else none | _, _ => none
def fExt : List D → List D → Option (D × List D) | xs, [.lst ys] => if xs.length + ys.length ≤ 16777216 then some (.non, xs ++ ys) else none | _, _ => none
def fPopAt : List D → List D → Option (D × List D) | xs, [.int i] => if -(2 ^ 63) ≤ i ∧ i < 2 ^ 63 then (seqIndex? i xs.length).bind fun k => (xs[k]?).map fun d => (d, xs.eraseIdx k) else none | _, _ => none
theorem ol_app : OL K ct.ad rAppend fApp := by
  intro F H p vs us xs ds ys z Q s h1 h2 h3 e q
  cases h3 with
  | nil => cases e
  | @cons u d us ds r rs =>
    cases rs with
    | cons _ _ => cases e
    | nil =>
      have e : (if xs.length < 16777216 then some (D.non, xs ++ [d]) else none) = some (z, ys) := e
      split at e
      · rename_i l
        cases e
        exact ⟨p, vs, u, rfl, rfl, h1, by rw [h2.len]; exact l, q _ _ .non (h2.snoc r)⟩
      · cases e
theorem ol_ins : OL K ct.ad OW.wIns fIns := by
  intro F H p vs us xs ds ys z Q s h1 h2 h3 e q
  cases h3 with
  | nil => cases e
  | @cons u d us ds r rs =>
    cases rs with
    | nil => cases d <;> cases e
    | @cons u2 d2 us2 ds2 r2 rs2 =>
      cases rs2 with
      | cons _ _ => cases d <;> cases e
      | nil =>
        cases d <;> try cases e
        rename_i i
        cases r
        have e : (if xs.length < 16777216 ∧ 0 ≤ i ∧ i < 2 ^ 63 then some (D.non, xs.take i.toNat ++ [d2] ++ xs.drop i.toNat) else none) = some (z, ys) := e
        split at e
        · rename_i l
          cases e
          exact ⟨p, vs, i, u2, rfl, rfl, h1, by rw [h2.len]; exact l.1, l.2.1, l.2.2, q _ _ .non (((h2.take _).snoc r2).app (h2.drop _))⟩
        · cases e
section
variable {X : Cx} {e : Expr} {es : List Expr} {r : List DE} {cpos apos p : Pos} {x : Str}
abbrev FewW (X : Cx) (q : Pos) (ws : List Expr) : Prop := ((backTo q (starEach ws X.env)).all (fun y => !y.1) && (backToKw q (keywordEach [] X.env)).all (fun y => y.1.isSome)
  && decide (ws.length + ([] : List Keyword).length + (if ([] : List Keyword).isEmpty then 0 else 1) < 30)) = true
theorem pp_bmL {id : String} {name : Str} {rr : V → List V → Hp → VK → Prop} {f : List D → List D → Option (D × List D)} (j : Nat) (eK : X.K = K) (O : OL K ct.ad rr f) (pa : PlainAttrs "list") (slot : Slot "list" name id) (hty : typeOf (.builtin id) = pure (.type "method_descriptor")) (hm : MtR X id rr) (ho : PE X (.Name x p) (tVar j)) (ha : PA X (e :: es) (TD K ct W (evDs r)))
    (hbase : attributeBase (.Name x p) name X.env (eval (.Name x p) X.env) = eval (.Name x p) X.env := by rfl)
    (hfew : FewW X cpos (e :: es) := by rfl) (hline : (apos.endLine == cpos.line) = true := by rfl)
    (hs : starEach (e :: es) X.env = (false, eval e X.env) :: starEach es X.env := by rfl) (hplain : (backTo cpos (starEach es X.env)).any (·.1) = false := by rfl) :
    PE X (.Call (.Attribute (.Name x p) name apos) (e :: es) [] cpos) (TP K ct W (evBmL j f r)) := by
  subst eK
  exact (pe_bm pa slot hty hm ho ha hbase hfew hline hs hplain).imp fun σ H Q => w_bmL O
end
/-- xs[i] = e, xs in slot j -/
def evSetI (j : Nat) (ie e : Ev) : M Fl := bnd (dat e) fun d => bnd (isL j) fun _ => bnd (dat ie) fun i => match i with
  | .int i => bnd (modL j fun xs => (ixN xs.length i).map fun n => (.non, xs.set n d)) fun _ => pur .nx
  | _ => fai
theorem Sat.isL {D : Ends} {j : Nat} {k : Rv → M Fl} (h : Sat K ct W D fr F ρ (PL.bnd (PL.isL j) k)) (S : Rel K ct fr F H σ ρ) :
    ∃ p vs, σ[j]? = some (some (.ref p)) ∧ H p = some (.lst vs) ∧ Sat K ct W D fr F ρ (k (.d .non)) := by
  obtain ⟨r, ρ', e, q⟩ := h
  unfold PL.bnd PL.isL at e
  split at e
  · rename_i a ρ1 e1
    split at e1
    · rename_i k0 xs e2
      cases e1
      obtain ⟨o, g1, p, a1, a2, a3, a4, a5, vs, a6, a7⟩ := S.slot j _ e2
      subst a1
      exact ⟨p, vs, g1, a6, r, ρ', e, q⟩
    · cases e1
  · rename_i c pl ρ1 e1
    split at e1 <;> cases e1
  · cases e
theorem w_setI {j : Nat} {ie e : Ev} {D : Ends} (h : TSt K ct W (evSetI j ie e) D σ H) : tAsg (TP K ct W e) (gSub (tVar j) (TP K ct W ie) rSetL) D σ H := by
  obtain ⟨fr, F, ρ, S, h⟩ := h
  refine h.dat S fun F1 H1 ρ1 v d s1 S1 r1 h => ?_
  obtain ⟨p, vs, h1, h2, h⟩ := Sat.isL h S1
  refine ⟨_, h1, ?_⟩
  refine h.dat S1 fun F2 H2 ρ2 u i s2 S2 r2 h => ?_
  cases i with
  | int i =>
    cases r2
    obtain ⟨r0, ρ', e, q⟩ := h
    have e : bnd (modL j fun xs => (ixN xs.length i).map fun n => (.non, xs.set n d)) (fun _ => pur Fl.nx) ρ2 = some (r0, ρ') := e
    unfold bnd modL at e
    cases e2 : ρ2[j]? with
    | none => rw [e2] at e; cases e
    | some x =>
      rw [e2] at e
      cases x with
      | cel k c =>
        cases c with
        | lst xs =>
          obtain ⟨o, g1, p', a1, a2, a3, a4, a5, vs', a6, a7⟩ := S2.slot j _ e2
          rw [h1] at g1
          subst a1
          cases g1
          dsimp only at e
          cases e3 : ixN xs.length i with
          | none => rw [e3] at e; cases e
          | some n =>
            rw [e3] at e
            cases e
            exact ⟨p, vs', i, n, rfl, rfl, a6, by rw [a7.len]; exact e3, q σ F2 _ (Same.refl _) (S2.updC e2 h1 rfl ⟨_, upd_same, a7.set (r1.mono s2) n⟩)⟩
        | _ => cases e
      | _ => cases e
  | _ => obtain ⟨_, _, e, _⟩ := h; cases e
theorem s_setI {X : Cx} {x : Str} {p pos pos' : Pos} {i e : Expr} {fi fe : Ev} (j : Nat) (ho : PE X (.Name x p) (tVar j)) (hi : PE X i (TP K ct W fi)) (he : PE X e (TP K ct W fe))
    (ha : ∀ z, assign (.Subscript (.Name x p) i pos) X.env z = (do
      let l ← holding [z] (eval (.Name x p) X.env); let n ← holding [z, l] (eval i X.env)
      standAt pos; holding [z, l, n] (setItem l n z); release [z, l, n] []) := by intro _; rfl)
    (hs : swapsWithSole [.Subscript (.Name x p) i pos] e pos'.line X.env = pure false := by rfl) (hw : swappedStores [.Subscript (.Name x p) i pos] e X.env = pure none := by rfl)
    (h1 : (assignEach [.Subscript (.Name x p) i pos] X.env).map (·.2) = [assign (.Subscript (.Name x p) i pos) X.env] := by rfl) : PS X (.Assign [.Subscript (.Name x p) i pos] e pos') (TSt K ct W (evSetI j fi fe)) := (ps_asg he (pg_sub ho hi set_list ha) hs hw h1).imp fun D σ H => w_setI
/-! ### fields of an object in the making -/
def putD (f : Str) (d : D) : List (Str × D) → List (Str × D)
  | [] => [(f, d)]
  | (g, x) :: r => if g = f then (g, d) :: r else (g, x) :: putD f d r
theorem put_zip {f : Str} {v : V} {d : D} (r : Rp K ct.ad F v d) : ∀ {kvs : List (Str × D)} {vs : List V}, Rps K ct.ad F vs (kvs.map (·.2)) → ∃ vs', putF f v ((kvs.map (·.1)).zip vs) = ((putD f d kvs).map (·.1)).zip vs' ∧ Rps K ct.ad F vs' ((putD f d kvs).map (·.2))
  | [], _, h => by cases h; exact ⟨[v], rfl, .cons r .nil⟩
  | (g, x) :: kvs, _, h => by
    cases h with
    | @cons u _ us _ hu hs =>
      obtain ⟨vs', e, rs⟩ := put_zip r hs
      by_cases q : g = f
      · refine ⟨v :: us, ?_, ?_⟩
        · simp [putD, putF, q]
        · simp only [putD, if_pos q, List.map_cons]; exact .cons r hs
      · refine ⟨u :: vs', ?_, ?_⟩
        · simp only [putD, putF, if_neg q, List.map_cons, List.zip_cons_cons]; rw [e]
        · simp only [putD, if_neg q, List.map_cons]; exact .cons hu rs
def evFldS (c : Cl) (j : Nat) (f : Str) (e : Ev) : M Fl := bnd (dat e) fun d => fun ρ => match ρ[j]? with
  | some (.cel k (.obj c' kvs)) => if c' = c ∧ kvs.length < 1000 then some (.ok .nx, ρ.set j (.cel k (.obj c' (putD f d kvs)))) else none
  | _ => none
theorem s_fld {X : Cx} {x f : Str} {p pos pos' : Pos} {e : Expr} {fe : Ev} (c : Cl) (j : Nat) (eK : X.K = K) (hc : Cls K (ct.ad c)) (hn : NoAttr K (ct.ad c) f) (ho : PE X (.Name x p) (tVar j)) (he : PE X e (TP K ct W fe))
    (hs : swapsWith e (some (.Attribute (.Name x p) f pos')) pos.line X.env = pure false := by rfl) : PS X (.Assign [.Attribute (.Name x p) f pos'] e pos) (TSt K ct W (evFldS c j f fe)) := by
  subst eK
  refine (ps_fld ho he hs).imp fun D σ H ⟨fr, F, ρ, S, h⟩ => ?_
  refine h.dat S fun F1 H1 ρ1 v d s1 S1 r1 h => ?_
  obtain ⟨r0, ρ', e, q⟩ := h
  have e9 : (match ρ1[j]? with | some (.cel k (.obj c' kvs)) => if c' = c ∧ kvs.length < 1000 then some (Ex.ok Fl.nx, ρ1.set j (.cel k (.obj c' (putD f d kvs)))) else none | _ => none) = some (r0, ρ') := e
  clear e
  split at e9
  · rename_i k c' kvs e2
    split at e9
    · rename_i w
      obtain ⟨rfl, w⟩ := w
      cases e9
      obtain ⟨o, g1, p', a1, a2, a3, a4, a5, dx, vs, a6, a7⟩ := S1.slot j _ e2
      subst a1
      obtain ⟨vs', e4, rs⟩ := put_zip (f := f) r1 a7
      refine ⟨_, g1, p', ct.ad c', dx, _, rfl, a6, hc, hn, ?_, ?_⟩
      · rw [List.length_zip, List.length_map]
        omega
      · rw [e4]
        exact q σ F1 _ (Same.refl _) (S1.updC e2 g1 rfl ⟨dx, vs', upd_same, rs⟩)
    · cases e9
  · cases e9
end PL
end
section
namespace PL
open PySem PySem.Spec PyProof.Rows L2
variable {K : PySem.W.Frag} {ad : Cl → Addr} {ct : CT}
variable {fr : Fr} {F F' H H' : Hp} {σ : L2.St} {ρ : List Sl} {W : WX}
/-! ### built-ins -/
def evB (g : List D → Option D) (es : List DE) : Ev := bnd (evDs es) fun ds => opt ((g ds).map Rv.d)
def evBc (g : List D → Option CC) (es : List DE) : Ev := bnd (evDs es) fun ds => opt ((g ds).map Rv.c)
variable (K ad) in
def OB (r : List V → Hp → VK → Prop) (g : List D → Option D) : Prop := ∀ {F H : Hp} {vs : List V} {ds : List D} {z : D} {Q : VK}, Same F H → Rps K ad F vs ds → g ds = some z → (∀ v, Rp K ad F v z → Q v H) → (∀ p us zs, z = .tup zs → Rps K ad F us zs → H p = none → Q (.ref p) (upd H p (.tup us))) → r vs H Q
variable (K ad) in
def OBc (r : List V → Hp → VK → Prop) (g : List D → Option CC) : Prop := ∀ {F H : Hp} {vs : List V} {ds : List D} {z : CC} {Q : VK}, Same F H → Rps K ad F vs ds → g ds = some z → (∀ p o, H p = none → (F p = none → CelR K ad F (upd H p o) p z) → Q (.ref p) (upd H p o)) → r vs H Q
theorem w_B {r : List V → Hp → VK → Prop} {g : List D → Option D} {es : List DE} {Q : VK} (O : OB K ct.ad r g) (h : TP K ct W (evB g es) σ H Q) : tCB r (TD K ct W (evDs es)) σ H Q := by
  obtain ⟨fr, F, ρ, S, h⟩ := h
  refine Tat.bnd h S fun F1 H1 ρ1 vs ds s1 S1 r1 h => ?_
  obtain ⟨z, e1, q⟩ := h.opt
  obtain ⟨y, e2, rfl⟩ := map_some e1
  refine O S1.fh r1 e2 (fun v rv => q v F1 H1 (Same.refl _) S1 rv) fun p us zs ez rs hp => ?_
  subst ez
  exact q _ (upd F1 p (.tup us)) _ (same_up (S1.nn hp)) (S1.newD hp) (Rp.tup (SqT.of upd_same) (rs.mono (same_up (S1.nn hp))))
theorem w_Bc {r : List V → Hp → VK → Prop} {g : List D → Option CC} {es : List DE} {Q : VK} (O : OBc K ct.ad r g) (h : TP K ct W (evBc g es) σ H Q) : tCB r (TD K ct W (evDs es)) σ H Q := by
  obtain ⟨fr, F, ρ, S, h⟩ := h
  refine Tat.bnd h S fun F1 H1 ρ1 vs ds s1 S1 r1 h => ?_
  obtain ⟨z, e1, q⟩ := h.opt
  obtain ⟨y, e2, rfl⟩ := map_some e1
  exact O S1.fh r1 e2 fun p o hp rc => q _ F1 _ (Same.refl _) (S1.newC hp) ⟨p, rfl, S1.fresh hp (rc (S1.nn hp))⟩
section
variable {X : Cx} {x : Str} {p pos : Pos} {e : Expr} {es : List Expr} {r : List V → Hp → VK → Prop} {as : List DE} {id T : String}
theorem pp_B {g : List D → Option D} (O : OB K ct.ad r g) (hc : CallR X (.builtin id) r) (hg : Gl X x) (hm : X.mg x = none) (hv : bootBuiltins x = some (.builtin id)) (ha : PA X (e :: es) (TD K ct W (evDs as))) (hn : x ≠ "__name__" := by decide) (hdb : (x == ("__debug__" : Str)) = false := by decide)
    (he : starEach (e :: es) X.env = (false, eval e X.env) :: starEach es X.env := by rfl) (hpl : (backTo pos (starEach es X.env)).any (·.1) = false := by rfl) : PE X (.Call (.Name x p) (e :: es) [] pos) (TP K ct W (evB g as)) := (pe_callB hc hg hm hv ha hn hdb he hpl).imp fun _ _ _ => w_B O
theorem pp_T {g : List D → Option D} (O : OB K ct.ad r g) (hc : CallR X (.type T) r) (hg : Gl X x) (hm : X.mg x = none) (hv : bootBuiltins x = some (.type T)) (ha : PA X (e :: es) (TD K ct W (evDs as))) (hn : x ≠ "__name__" := by decide) (hdb : (x == ("__debug__" : Str)) = false := by decide)
    (he : starEach (e :: es) X.env = (false, eval e X.env) :: starEach es X.env := by rfl) (hpl : (backTo pos (starEach es X.env)).any (·.1) = false := by rfl) : PE X (.Call (.Name x p) (e :: es) [] pos) (TP K ct W (evB g as)) := (pe_callTy hc hg hm hv ha hn hdb he hpl).imp fun _ _ _ => w_B O
theorem pp_Tc {g : List D → Option CC} (O : OBc K ct.ad r g) (hc : CallR X (.type T) r) (hg : Gl X x) (hm : X.mg x = none) (hv : bootBuiltins x = some (.type T)) (ha : PA X (e :: es) (TD K ct W (evDs as))) (hn : x ≠ "__name__" := by decide) (hdb : (x == ("__debug__" : Str)) = false := by decide)
    (he : starEach (e :: es) X.env = (false, eval e X.env) :: starEach es X.env := by rfl) (hpl : (backTo pos (starEach es X.env)).any (·.1) = false := by rfl) : PE X (.Call (.Name x p) (e :: es) [] pos) (TP K ct W (evBc g as)) := (pe_callTy hc hg hm hv ha hn hdb he hpl).imp fun _ _ _ => w_Bc O
end
theorem or_call {X : Cx} {f : Value} {r r' : List V → Hp → VK → Prop} (h : CallR X f r) (h' : CallR X f r') : CallR X f (fun xs H Q => r xs H Q ∨ r' xs H Q) := fun pins s σ H xs us Q I rv q => q.elim (h pins s σ H xs us Q I rv) (h' pins s σ H xs us Q I rv)
/-! len -/
def gLen : List D → Option D
  | [.lst xs] => some (.int xs.length) | [.sq xs] => some (.int xs.length) | [.tup xs] => some (.int xs.length)
  | [.str z] => if z.length ≤ 16777216 then some (.int z.length) else none
  | _ => none
def rLenA (K : PySem.W.Frag) : List V → Hp → VK → Prop := fun xs H Q => OW.wLen K xs H Q ∨ OW.wLenS xs H Q
theorem c_lenA {X : Cx} (eK : X.K = K) : CallR X (.builtin "len") (rLenA K) := by subst eK; exact or_call OW.c_len OW.c_lenS
theorem ob_len : OB K ad (rLenA K) gLen := by
  intro F H vs ds z Q s r e q _
  cases r with
  | nil => cases e
  | @cons v d vs ds r rs =>
    cases rs with
    | cons _ _ => cases d <;> cases e
    | nil =>
      cases d <;> try cases e
      · rename_i t
        cases r
        have e : (if t.length ≤ 16777216 then some (D.int t.length) else none) = some z := e
        split at e
        · rename_i h; cases e; exact .inr ⟨t, rfl, h, q _ (.int _)⟩
        · cases e
      · cases r with | tup h k => exact .inl ⟨_, _, rfl, .inr (sameT s h), by rw [k.len]; exact q _ (.int _)⟩
      · cases r with | lst h k => exact .inl ⟨_, _, rfl, .inl (SqL.of (s _ _ h)), by rw [k.len]; exact q _ (.int _)⟩
      · cases r with | sq h k => exact .inl ⟨_, _, rfl, .inl (s.seq h), by rw [k.len]; exact q _ (.int _)⟩
/-! int, str, abs, min, max -/
def gInt : List D → Option D | [.int i] => some (.int i) | [.bl b] => some (.int (if b then 1 else 0)) | _ => none
theorem ob_int : OB K ad OW.wInt1 gInt := by
  intro F H vs ds z Q s r e q _
  cases r with
  | nil => cases e
  | @cons v d vs ds r rs =>
    cases rs with
    | cons _ _ => cases d <;> cases e
    | nil =>
      cases d <;> cases e
      · cases r; exact .inr ⟨_, rfl, q _ (.int _)⟩
      · cases r; exact .inl ⟨_, rfl, q _ (.int _)⟩
def gStr : List D → Option D | [.int i] => if i.natAbs.log2 < 1920 then some (.str (toString i)) else none | _ => none
def gAbs : List D → Option D | [.int i] => some (.int (if i < 0 then -i else i)) | _ => none
def gMax2 : List D → Option D | [.int i, .int j] => some (.int (max i j)) | _ => none
def gMin2 : List D → Option D | [.int i, .int j] => some (.int (min i j)) | _ => none
def gMax3 : List D → Option D | [.int i, .int j, .int k] => some (.int (max i (max j k))) | _ => none
def gMin3 : List D → Option D | [.int i, .int j, .int k] => some (.int (min i (min j k))) | _ => none
theorem two {F : Hp} {vs : List V} {i j : Int} (r : Rps K ad F vs [.int i, .int j]) : vs = [.int i, .int j] := r.ints (ns := [i, j])
theorem three {F : Hp} {vs : List V} {i j k : Int} (r : Rps K ad F vs [.int i, .int j, .int k]) : vs = [.int i, .int j, .int k] := r.ints (ns := [i, j, k])
theorem ob_max2 : OB K ad OW.wMax2 gMax2 := by
  intro F H vs ds z Q s r e q _
  unfold gMax2 at e
  split at e
  · rename_i i j
    cases e
    have := two r
    subst this
    refine ⟨i, j, rfl, ?_⟩
    rw [show (if j > i then j else i) = max i j by split <;> omega]
    exact q _ (.int _)
  · cases e
theorem ob_min2 : OB K ad OW.wMin2 gMin2 := by
  intro F H vs ds z Q s r e q _
  unfold gMin2 at e
  split at e
  · rename_i i j
    cases e
    have := two r
    subst this
    refine ⟨i, j, rfl, ?_⟩
    rw [show (if j < i then j else i) = min i j by split <;> omega]
    exact q _ (.int _)
  · cases e
/-- a list of ints as it lies -/
theorem Rp.lints {F H : Hp} {v : V} {d : D} {xs : List D} {ns : List Int} (s : Same F H) (r : Rp K ad F v d) (h : d.litems = some xs) (hn : D.ints xs = some ns) : ∃ p, v = .ref p ∧ SqL K H p (ns.map V.int) := by
  cases d <;> cases h
  · cases r with | lst h k => rw [D.ints_eq hn] at k; rw [k.ints] at h; exact ⟨_, rfl, SqL.of (s _ _ h)⟩
  · cases r with | sq h k => rw [D.ints_eq hn] at k; rw [k.ints] at h; exact ⟨_, rfl, s.seq h⟩
theorem Rp.lbls {F H : Hp} {v : V} {d : D} {xs : List D} {ns : List Bool} (s : Same F H) (r : Rp K ad F v d) (h : d.litems = some xs) (hn : D.bools xs = some ns) : ∃ p, v = .ref p ∧ SqL K H p (ns.map V.bl) := by
  cases d <;> cases h
  · cases r with | lst h k => rw [D.bools_eq hn] at k; rw [k.bls] at h; exact ⟨_, rfl, SqL.of (s _ _ h)⟩
  · cases r with | sq h k => rw [D.bools_eq hn] at k; rw [k.bls] at h; exact ⟨_, rfl, s.seq h⟩
def lints (d : D) : Option (List Int) := d.litems.bind D.ints
def lbools (d : D) : Option (List Bool) := d.litems.bind D.bools
theorem lints_i {d : D} {ns : List Int} (h : lints d = some ns) : ∃ xs, d.litems = some xs ∧ D.ints xs = some ns := by
  unfold lints at h
  cases e : d.litems with
  | none =>
    rw [e] at h
    cases h
  | some xs => rw [e] at h; exact ⟨xs, rfl, h⟩
theorem lbools_i {d : D} {ns : List Bool} (h : lbools d = some ns) : ∃ xs, d.litems = some xs ∧ D.bools xs = some ns := by
  unfold lbools at h
  cases e : d.litems with
  | none =>
    rw [e] at h
    cases h
  | some xs => rw [e] at h; exact ⟨xs, rfl, h⟩
def maxI : List Int → Int | [] => 0 | n :: ns => ns.foldl max n
def minI : List Int → Int | [] => 0 | n :: ns => ns.foldl min n
theorem foldl_max' : ∀ (ns : List Int) (m : Int), m ≤ ns.foldl max m ∧ (∀ n ∈ ns, n ≤ ns.foldl max m) ∧ (ns.foldl max m = m ∨ ns.foldl max m ∈ ns)
  | [], m => ⟨Int.le_refl _, fun _ h => by simp at h, .inl rfl⟩
  | n :: ns, m => by
    obtain ⟨h1, h2, h3⟩ := foldl_max' ns (max m n)
    rw [List.foldl_cons]
    refine ⟨by omega, fun x hx => ?_, ?_⟩
    · rcases List.mem_cons.mp hx with rfl | hx
      · omega
      · exact h2 x hx
    · rcases h3 with e | e
      · rcases Int.le_total m n with c | c
        · exact .inr (by rw [e]; exact List.mem_cons.mpr (.inl (by omega)))
        · exact .inl (by omega)
      · exact .inr (List.mem_cons_of_mem _ e)
theorem foldl_min' : ∀ (ns : List Int) (m : Int), ns.foldl min m ≤ m ∧ (∀ n ∈ ns, ns.foldl min m ≤ n) ∧ (ns.foldl min m = m ∨ ns.foldl min m ∈ ns)
  | [], m => ⟨Int.le_refl _, fun _ h => by simp at h, .inl rfl⟩
  | n :: ns, m => by
    obtain ⟨h1, h2, h3⟩ := foldl_min' ns (min m n)
    rw [List.foldl_cons]
    refine ⟨by omega, fun x hx => ?_, ?_⟩
    · rcases List.mem_cons.mp hx with rfl | hx
      · omega
      · exact h2 x hx
    · rcases h3 with e | e
      · rcases Int.le_total m n with c | c
        · exact .inl (by omega)
        · exact .inr (by rw [e]; exact List.mem_cons.mpr (.inl (by omega)))
      · exact .inr (List.mem_cons_of_mem _ e)
theorem maxI_spec {ns : List Int} (h : ns ≠ []) : maxI ns ∈ ns ∧ ∀ n ∈ ns, n ≤ maxI ns := by
  cases ns with
  | nil => exact absurd rfl h
  | cons n ns =>
    obtain ⟨h1, h2, h3⟩ := foldl_max' ns n
    refine ⟨h3.elim (fun e => by show ns.foldl max n ∈ _; rw [e]; exact List.mem_cons_self) (List.mem_cons_of_mem _), fun x hx => ?_⟩
    (rcases List.mem_cons.mp hx with rfl | hx)
    · exact h1
    · exact h2 x hx
theorem minI_spec {ns : List Int} (h : ns ≠ []) : minI ns ∈ ns ∧ ∀ n ∈ ns, minI ns ≤ n := by
  cases ns with
  | nil => exact absurd rfl h
  | cons n ns =>
    obtain ⟨h1, h2, h3⟩ := foldl_min' ns n
    refine ⟨h3.elim (fun e => by show ns.foldl min n ∈ _; rw [e]; exact List.mem_cons_self) (List.mem_cons_of_mem _), fun x hx => ?_⟩
    (rcases List.mem_cons.mp hx with rfl | hx)
    · exact h1
    · exact h2 x hx
def gMaxL : List D → Option D | [d] => (lints d).bind fun ns => if ns ≠ [] then some (.int (maxI ns)) else none | _ => none
def gMinL : List D → Option D | [d] => (lints d).bind fun ns => if ns ≠ [] then some (.int (minI ns)) else none | _ => none
def gSum : List D → Option D | [d] => (lints d).map fun ns => .int ns.sum | _ => none
def gAny : List D → Option D | [d] => (lbools d).map fun bs => .bl (bs.any id) | _ => none
def gAll : List D → Option D | [d] => (lbools d).map fun bs => .bl (bs.all id) | _ => none
theorem one_i {F : Hp} {vs : List V} {d : D} (r : Rps K ad F vs [d]) : ∃ v, vs = [v] ∧ Rp K ad F v d := by
  cases r with
  | cons r rs => cases rs; exact ⟨_, rfl, r⟩
theorem ob_maxL : OB K ad (rMax K) gMaxL := by
  intro F H vs ds z Q s r e q _
  unfold gMaxL at e
  split at e
  · rename_i d
    cases e1 : lints d with
    | none => rw [e1] at e; cases e
    | some ns =>
      rw [e1] at e
      have e : (if ns ≠ [] then some (D.int (maxI ns)) else none) = some z := e
      split at e
      · rename_i h
        cases e
        obtain ⟨v, rfl, rv⟩ := one_i r
        obtain ⟨xs, g1, g2⟩ := lints_i e1
        obtain ⟨p, rfl, hp⟩ := rv.lints s g1 g2
        refine ⟨p, ns, rfl, hp, List.length_pos_iff.mpr h, fun m m1 m2 => ?_⟩
        obtain ⟨a1, a2⟩ := maxI_spec h
        rw [show m = maxI ns by have := a2 m m1; have := m2 _ a1; omega]
        exact q _ (.int _)
      · cases e
  · cases e
theorem ob_minL : OB K ad (rMin K) gMinL := by
  intro F H vs ds z Q s r e q _
  unfold gMinL at e
  split at e
  · rename_i d
    cases e1 : lints d with
    | none => rw [e1] at e; cases e
    | some ns =>
      rw [e1] at e
      have e : (if ns ≠ [] then some (D.int (minI ns)) else none) = some z := e
      split at e
      · rename_i h
        cases e
        obtain ⟨v, rfl, rv⟩ := one_i r
        obtain ⟨xs, g1, g2⟩ := lints_i e1
        obtain ⟨p, rfl, hp⟩ := rv.lints s g1 g2
        refine ⟨p, ns, rfl, hp, List.length_pos_iff.mpr h, fun m m1 m2 => ?_⟩
        obtain ⟨a1, a2⟩ := minI_spec h
        rw [show m = minI ns by have := a2 m m1; have := m2 _ a1; omega]
        exact q _ (.int _)
      · cases e
  · cases e
theorem ob_any : OB K ad (rAny K) gAny := by
  intro F H vs ds z Q s r e q _
  unfold gAny at e
  split at e
  · rename_i d
    obtain ⟨ns, e1, rfl⟩ := map_some e
    obtain ⟨v, rfl, rv⟩ := one_i r
    obtain ⟨xs, g1, g2⟩ := lbools_i e1
    obtain ⟨p, rfl, hp⟩ := rv.lbls s g1 g2
    exact ⟨p, ns, rfl, hp, q _ (.bl _)⟩
  · cases e
/-! tuple, list -/
def gTup : List D → Option D | [.lst xs] => some (.tup xs) | [.sq xs] => some (.tup xs) | [.tup xs] => some (.tup xs) | _ => none
def rTupA (K : PySem.W.Frag) : List V → Hp → VK → Prop := fun xs H Q => ∃ p ys, xs = [.ref p] ∧ ((SqL K H p ys ∧ ∀ l, H l = none → Q (.ref l) (upd H l (.tup ys))) ∨ (SqT K H p ys ∧ Q (.ref p) H))
theorem c_tupA {X : Cx} (eK : X.K = K) : CallR X (.type "tuple") (rTupA K) := by subst eK; exact call_tuple_of
theorem ob_tup : OB K ad (rTupA K) gTup := by
  intro F H vs ds z Q s r e q q2
  unfold gTup at e
  split at e
  · cases e
    obtain ⟨v, rfl, rv⟩ := one_i r
    cases rv with | lst h k => exact ⟨_, _, rfl, .inl ⟨SqL.of (s _ _ h), fun l hl => q2 l _ _ rfl k hl⟩⟩
  · cases e
    obtain ⟨v, rfl, rv⟩ := one_i r
    cases rv with | sq h k => exact ⟨_, _, rfl, .inl ⟨s.seq h, fun l hl => q2 l _ _ rfl k hl⟩⟩
  · cases e
    obtain ⟨v, rfl, rv⟩ := one_i r
    cases rv with | tup h k => exact ⟨_, _, rfl, .inr ⟨sameT s h, q _ (.tup h k)⟩⟩
  · cases e
def gLst : List D → Option CC | [d] => d.items.map CC.lst | _ => none
def rLstA (K : PySem.W.Frag) : List V → Hp → VK → Prop := fun xs H Q => ∃ p ys, xs = [.ref p] ∧ (SqL K H p ys ∨ SqT K H p ys) ∧ ∀ l, H l = none → Q (.ref l) (upd H l (.lst ys))
theorem c_lstA {X : Cx} (eK : X.K = K) : CallR X (.type "list") (rLstA K) := by subst eK; exact call_list_of
theorem ob_lst : OBc K ad (rLstA K) gLst := by
  intro F H vs ds z Q s r e q
  unfold gLst at e
  split at e
  · obtain ⟨xs, e1, rfl⟩ := map_some e
    obtain ⟨v, rfl, rv⟩ := one_i r
    obtain ⟨p, us, rfl, h1, h2⟩ := rv.seq s e1
    exact ⟨p, us, rfl, h1, fun l hl => q l _ hl fun _ => ⟨_, upd_same, h2⟩⟩
  · cases e
/-! ### isinstance -/
inductive TyN | b (n : String) | o (c : Cl)
  deriving DecidableEq
def TyN.v (ad : Cl → Addr) : TyN → Value | .b n => .type n | .o c => .ref (ad c)
def D.tyN : D → Option TyN
  | .non => some (.b "NoneType") | .bl _ => some (.b "bool") | .int _ => some (.b "int") | .str _ => some (.b "str") | .tup _ => some (.b "tuple") | .lst _ => some (.b "list") | .sq _ => some (.b "list")
  | .obj c _ => some (.o c) | .dK _ _ => some (.b "dict") | .dT _ _ => some (.b "dict") | _ => none
structure ClsT (K : PySem.W.Frag) (C : Addr) : Prop where
  cl : Cls K C
  c1 : PySem.W.findIn K (.ref C) "__class__" = some (some (.builtin "object.__class__"))
  c2 : PySem.W.specialIn K (.builtin "object.__class__") "__get__" = some (some (.builtin "getset_descriptor.__get__"))
  c3 : PySem.W.takesIn K (.builtin "object.__class__") = some true
  c4 : PySem.W.mroIn K C (.type "object") = some true
variable (K ad) in
inductive IsiOk (u : Value) : List (TyN × Bool) → Prop
  | nil : IsiOk u []
  | b {n : String} {x : Bool} {r : List (TyN × Bool)} (h : PySem.W.kitOne K (.type n) u = some x) (t : IsiOk u r) : IsiOk u ((.b n, x) :: r)
  | o {c : Cl} {x : Bool} {r : List (TyN × Bool)} (h : PySem.W.kitOne K (.ref (ad c)) u = some x) (k : ClsT K (ad c)) (t : IsiOk u r) : IsiOk u ((.o c, x) :: r)
theorem IsiOk.get {u : Value} : ∀ {tbl : List (TyN × Bool)} {t : TyN} {x : Bool}, IsiOk K ad u tbl → tbl.lookup t = some x → PySem.W.kitOne K (t.v ad) u = some x ∧ ∀ c, t = .o c → ClsT K (ad c)
  | _, _, _, .nil, h =>
    by cases h
  | _, t, x, .b (n := n) (x := y) (r := r) h k, e => by
    rw [List.lookup_cons] at e
    cases q : t == TyN.b n with
    | true => rw [q] at e; have e : some y = some x := e; cases e; have := beq_iff_eq.mp q; subst this; exact ⟨h, fun c z => nomatch z⟩
    | false => rw [q] at e; exact k.get e
  | _, t, x, .o (c := c0) (x := y) (r := r) h k0 k, e => by
    rw [List.lookup_cons] at e
    cases q : t == TyN.o c0 with
    | true => rw [q] at e; have e : some y = some x := e; cases e; have := beq_iff_eq.mp q; subst this; exact ⟨h, fun c z => by cases z; exact k0⟩
    | false => rw [q] at e; exact k.get e
theorem Rp.ty {F H : Hp} {v : V} {d : D} {t : TyN} (s : Same F H) (r : Rp K ad F v d) (h : d.tyN = some t) (k : ∀ c, t = .o c → ClsT K (ad c)) : TyX K H v (t.v ad) := by
  cases r with
  | non => cases h; exact .base .non
  | bl b => cases h; exact .base (.bl b)
  | int i => cases h; exact .base (.int i)
  | str x => cases h; exact .base (.str x)
  | @tup p vs ds h1 k1 =>
    cases h
    rcases sameT s h1 with (h2 | ⟨o, h2⟩) | ⟨o, its, n, h2, h3, _⟩
    · exact .base (.tup h2)
    · exact .fTuple h2
    · exact .kTuple h2 h3
  | lst h1 k1 => cases h; exact .base (.lst (s _ _ h1))
  | @sq p vs ds h1 k1 =>
    cases h
    rcases s.seq h1 with (h2 | ⟨o, h2⟩) | ⟨o, its, n, h2, h3, _⟩
    · exact .base (.lst h2)
    · exact .base (.frz h2)
    · exact .kList h2 h3
  | @obj p dx c vs ds h1 _ _ => cases h; have T := k c rfl; exact .base (.ins (s _ _ h1) T.cl T.c1 T.c2 T.c3 T.c4)
  | cl c => cases h
  | dK h1 _ _ => cases h; exact .base (.dK (s _ _ h1))
  | dT h1 _ _ => cases h; exact .base (.dT (s _ _ h1))
def evIsi (tbl : List (TyN × Bool)) (e : Ev) : Ev := bnd (dat e) fun d => opt ((d.tyN.bind fun t => tbl.lookup t).map fun b => Rv.d (.bl b))
theorem pp_isi {X : Cx} {p pos : Pos} {e c : Expr} {fe : Ev} {cv : V} {u : Value} {tbl : List (TyN × Bool)} (eK : X.K = K) (T : IsiOk K ct.ad u tbl) (hcv : ClsV cv u) (hg : Gl X "isinstance") (hm : X.mg "isinstance" = none) (he : PE X e (TP K ct W fe)) (hc : PE X c (tC cv))
    (h1 : starEach (e :: [c]) X.env = (false, eval e X.env) :: starEach [c] X.env := by rfl) (h2 : starEach [c] X.env = (false, eval c X.env) :: starEach [] X.env := by rfl) (hpl : (backTo pos (starEach [c] X.env)).any (·.1) = false := by rfl) :
    PE X (.Call (.Name "isinstance" p) [e, c] [] pos) (TP K ct W (evIsi tbl fe)) := by
  subst eK
  refine (pe_callB (x := "isinstance") call_isi hg hm (by decide +kernel) (pa_cons he (pa_cons hc pa_nil h2) h1) (by decide) (by decide) h1 hpl).imp fun σ H Q h => ?_
  obtain ⟨fr, F, ρ, S, h⟩ := h
  refine Tat.dat h S fun F1 H1 ρ1 v d s1 S1 r1 h => ?_
  obtain ⟨z, e1, q⟩ := h.opt
  obtain ⟨b, e2, rfl⟩ := map_some e1
  cases e3 : d.tyN with
  | none => rw [e3] at e2; cases e2
  | some t =>
    rw [e3] at e2
    have e2 : tbl.lookup t = some b := e2
    obtain ⟨g1, g2⟩ := T.get e2
    exact ⟨v, cv, _, u, b, rfl, hcv, r1.ty S1.fh e3 g2, g1, q _ F1 H1 (Same.refl _) S1 (Rp.bl b)⟩
end PL
end
section
namespace PL
open PySem PySem.Spec PyProof.Rows L2
variable {K : PySem.W.Frag} {ad : Cl → Addr} {ct : CT}
variable {fr : Fr} {F F' H H' : Hp} {σ : L2.St} {ρ : List Sl} {W : WX}
/-! ### raise, try -/
def evRaise (c : Cl) : M Fl := fun ρ => some (.er c none, ρ)
def evRaise1 (c : Cl) (e : Ev) : M Fl := bnd e fun _ => evRaise c
theorem Sat.raise {D : Ends} {c : Cl} (h : Sat K ct W D fr F ρ (evRaise c)) (S : Rel K ct fr F H σ ρ) : W (.ref (ct.ad c)) none σ H := by
  obtain ⟨r, ρ', e, q⟩ := h
  cases e
  exact q σ none F H (Same.refl _) S rfl
theorem s_raise1 {X : Cx} {x : Str} {p pos pos' : Pos} {e : Expr} {fe : Ev} {bmB : List Value} {B newId initId : String} (c : Cl) (hc : X.calm = true) (tk : Takes X W) (Fx : ExcBaseFacts B newId initId bmB) (q : PySem.W.excIn X.K (ct.ad c) bmB newId = true) (gC : X.mg x = some (.ref (ct.ad c))) (kC : PySem.W.keepIn X.K (.ref (ct.ad c)) = true) (r : Raises X (.ref (ct.ad c))) (hg : Gl X x)
    (he : PE X e (TP K ct W fe)) (hs : starEach [e] X.env = (false, eval e X.env) :: starEach [] X.env := by rfl) (hdb : (x == ("__debug__" : Str)) = false := by decide) : PS X (.Raise (some (.Call (.Name x p) [e] [] pos)) none pos') (TSt K ct W (evRaise1 c fe)) := (ps_raise hc tk (SkE.pmk_own1 Fx q gC kC r hg he hs hdb)).imp fun D σ H ⟨fr, F, ρ, S, h⟩ =>
  Sat.bnd K ct h S (fun _ _ _ _ z => z) fun F1 H1 ρ1 v r s1 S1 r1 h => Sat.raise h S1
def noExn (ρ : List Sl) : Bool := ρ.all fun s => match s with | .exn _ _ => false | _ => true
theorem noExn_at (h : noExn ρ = true) {i : Nat} {c : Cl} {pl : Option D} : ρ[i]? ≠ some (.exn c pl) := fun e => by
  have := List.all_eq_true.mp h _ (List.mem_of_getElem? e)
  cases this
/-- another exception is held -/
theorem Rel.ek {ct' : CT} (S : Rel K ct fr F H σ ρ) (e : ct'.ad = ct.ad) (h : noExn ρ = true) : Rel K ct' fr F H σ ρ := by
  refine ⟨S.len, S.fh, fun i s z => ?_, S.dis, S.keep, S.fro, S.pcs⟩
  obtain ⟨o, g1, g2⟩ := S.slot i s z
  refine ⟨o, g1, ?_⟩
  cases s with
  | un => trivial
  | dat d => obtain ⟨v, a1, a2⟩ := g2; exact ⟨v, a1, by rw [e]; exact a2⟩
  | cel k c => obtain ⟨p, a1, a2, a3, a4, a5, a6⟩ := g2; exact ⟨p, a1, a2, a3, a4, a5, by rw [e]; exact a6⟩
  | exn c pl => exact absurd z (noExn_at h)
theorem Rel.setX (S : Rel K ct fr F H σ ρ) {i : Nat} {c : Cl} {pl : Option D} (h : ct.ecl = .ref (ct.ad c)) (r : PlR K ct.ad F c pl ct.ed) (np : fr.pa i = none) : Rel K ct fr F H (σ.set i (some (.ref ct.ea))) (ρ.set i (.exn c pl)) := by
  have dn : ∀ {j : Nat} {k : CK} {c1 : CC}, (ρ.set i (.exn c pl))[j]? = some (.cel k c1) → j ≠ i ∧ ρ[j]? = some (.cel k c1) := fun {j k c1} e => by
    by_cases q : i = j
    · subst q
      by_cases l : i < ρ.length
      · rw [List.getElem?_set_self l] at e; cases e
      · rw [List.getElem?_eq_none (by simp; omega)] at e; cases e
    · rw [List.getElem?_set_ne q] at e; exact ⟨fun z => q z.symm, e⟩
  refine ⟨by simp [S.len], S.fh, fun j s e => ?_, fun a b k c k' c' p e1 e2 e3 e4 => ?_, S.keep, S.fro, fun j p e => ?_⟩
  · by_cases q : i = j
    · subst q
      by_cases l : i < ρ.length
      · rw [List.getElem?_set_self l] at e
        cases e
        exact ⟨_, by rw [List.getElem?_set_self (by rw [S.len]; exact l)], rfl, h, r⟩
      · rw [List.getElem?_eq_none (by simp; omega)] at e; cases e
    · rw [List.getElem?_set_ne q] at e
      obtain ⟨o, h1, h2⟩ := S.slot j s e
      exact ⟨o, by rw [List.getElem?_set_ne q]; exact h1, h2⟩
  · obtain ⟨n1, f1⟩ := dn e1
    obtain ⟨n2, f2⟩ := dn e2
    rw [List.getElem?_set_ne (Ne.symm n1)] at e3
    rw [List.getElem?_set_ne (Ne.symm n2)] at e4
    exact S.dis a b _ _ _ _ p f1 f2 e3 e4
  · obtain ⟨k, c, h1, h2⟩ := S.pcs j p e
    refine ⟨k, c, ?_, h2⟩
    rw [List.getElem?_set_ne (fun q => by rw [q, e] at np; cases np)]
    exact h1
variable (K ad) in
inductive CatOk (cv : Value) : List (Cl × Bool) → Prop
  | nil : CatOk cv []
  | cons {c : Cl} {b : Bool} {r : List (Cl × Bool)} (h : PySem.W.exmOne K (.ref (ad c)) cv = some b) (t : CatOk cv r) : CatOk cv ((c, b) :: r)
theorem CatOk.get {cv : Value} : ∀ {cat : List (Cl × Bool)} {c : Cl} {b : Bool}, CatOk K ad cv cat → cat.lookup c = some b → PySem.W.exmOne K (.ref (ad c)) cv = some b
  | _, _, _, .nil, h => by cases h
  | _, c, b, .cons (c := c0) (b := b0) h t, e => by
    rw [List.lookup_cons] at e
    cases q : c == c0 with
    | true => rw [q] at e; have e : some b0 = some b := e; cases e; have := beq_iff_eq.mp q; subst this; exact h
    | false => rw [q] at e; exact t.get e
/-- what is behind a suite -/
def suiteO (s : M Fl) : M Fl := fun ρ => if noExn ρ then match s ρ with
  | some (.ok f, ρ2) => if noExn ρ2 then some (.ok f, ρ2) else none
  | _ => none else none
def suiteA (i : Nat) (c : Cl) (pl : Option D) (s : M Fl) : M Fl := fun ρ => if noExn ρ then (match ρ[i]? with
  | some (.cel .par _) => none
  | some _ => (match s (ρ.set i (.exn c pl)) with
    | some (.ok f, ρ2) => if noExn (ρ2.set i .un) then some (.ok f, ρ2.set i .un) else none
    | _ => none)
  | none => none) else none
def evTryO (body : M Fl) (cat : List (Cl × Bool)) (s : M Fl) : M Fl := fun ρ => match body ρ with
  | some (.er c pl, ρ1) => (match cat.lookup c with
    | some true => suiteO s ρ1
    | some false => some (.er c pl, ρ1)
    | none => none)
  | r => r
def evTryA (i : Nat) (body : M Fl) (cat : List (Cl × Bool)) (s : M Fl) : M Fl := fun ρ => match body ρ with
  | some (.er c pl, ρ1) => (match cat.lookup c with
    | some true => suiteA i c pl s ρ1
    | some false => some (.er c pl, ρ1)
    | none => none)
  | r => r
/-- the context of a suite -/
abbrev CT.su (ct : CT) (a : Addr) (cls : Value) (d : Option Addr) : CT := { ct with ea := a, ecl := cls, ed := d }
theorem w_tryA {i : Nat} {cv : Value} {body s : M Fl} {cat : List (Cl × Bool)} {D : Ends} (C : CatOk K ct.ad cv cat) (h : TSt K ct W (evTryA i body cat s) D σ H) : TSt K ct (wAs K cv i (fun a cls d => TSt K (ct.su a cls d) WF s) W D) body D σ H := by
  obtain ⟨fr, F, ρ, S, r, ρ', e, q⟩ := h
  refine ⟨fr, F, ρ, S, ?_⟩
  unfold evTryA at e
  cases eb : body ρ with
  | none => rw [eb] at e; cases e
  | some x =>
    obtain ⟨rb, ρ1⟩ := x
    rw [eb] at e
    refine ⟨rb, ρ1, eb, ?_⟩
    cases rb with
    | ok f => cases e; cases f <;> exact q
    | er c pl =>
      intro σ1 d F1 H1 s1 S1 pr
      have e : (match cat.lookup c with | some true => suiteA i c pl s ρ1 | some false => some (.er c pl, ρ1) | none => none) = some (r, ρ') := e
      cases ec : cat.lookup c with
      | none => rw [ec] at e; cases e
      | some b =>
        rw [ec] at e
        refine ⟨b, C.get ec, fun hb a ha => ?_, fun hb => ?_⟩
        · subst hb
          have e : suiteA i c pl s ρ1 = some (r, ρ') := e
          unfold suiteA at e
          split at e
          · rename_i n1
            split at e
            · cases e
            · rename_i sl hn hsl
              have np := S1.npar hsl hn
              split at e
              · rename_i f ρs es
                split at e
                · rename_i n2
                  cases e
                  have S3 : Rel K (ct.su a (.ref (ct.ad c)) d) fr F1 H1 σ1 ρ1 := S1.ek rfl n1
                  refine ⟨fr, F1, _, S3.setX rfl pr np, .ok f, _, es, ?_⟩
                  cases f with
                  | nx => exact fun σ2 F2 H2 s2 S2 => q _ F2 H2 (s1.trans s2) ((S2.setU np).ek rfl n2)
                  | bk => exact fun σ2 F2 H2 s2 S2 => q _ F2 H2 (s1.trans s2) ((S2.setU np).ek rfl n2)
                  | ct => exact fun σ2 F2 H2 s2 S2 => q _ F2 H2 (s1.trans s2) ((S2.setU np).ek rfl n2)
                  | rt x =>
                    intro σ2 v F2 H2 s2 S2 rv
                    refine q σ2 v F2 H2 (s1.trans s2) ((S2.unR np).ek rfl n2) ?_
                    cases x with
                    | d d => exact rv
                    | c c =>
                      obtain ⟨p, ev, f1, f2, f3, f4, f5⟩ := rv
                      refine ⟨p, ev, f1, f2, f3, f4, fun j k c' z1 z2 => ?_⟩
                      by_cases w : i = j
                      · subst w
                        rw [List.getElem?_set] at z1
                        split at z1
                        · split at z1 <;> cases z1
                        · rename_i w; exact absurd rfl w
                      · rw [List.getElem?_set_ne w] at z1; exact f5 j k c' z1 z2
                · cases e
              · cases e
            · cases e
          · cases e
        · subst hb
          cases e
          exact q σ1 d F1 H1 s1 S1 pr
section
variable {X : Cx} {x n : Str} {cv : Value} {body suite : List Stmt} {b₀ : Stmt} {np pos pos' : Pos} {mb ms : M Fl} {cat : List (Cl × Bool)}
theorem s_tryA {i : Nat} (eK : X.K = K) (hs : X.stack = X.env :: X.outer) (hf : X.env.frame = some X.env.locals) (hN : X.N.Nodup) (hi : X.N[i]? = some n) (hln : X.env.kindOf n = some .local) (hc : Names X x cv) (tk : Takes X W) (C : CatOk K ct.ad cv cat)
    (hb : ∀ (W : WX) (pn : List (Addr × Obj)) (xe : Value → Shared → Prop), Takes (X.tr pn xe) W → PassesOwn (model X.prog X.w) X.A X.env xe → PSs (X.tr pn xe) body (TSt K ct W mb))
    (hsu : ∀ (a : Addr) (oe : Obj) (cls : Value) (d : Option Addr) (pn : List (Addr × Obj)), Zc cls d oe → (∃ vs, oe.data = .fields vs) → PSs (X.suite a ((a, oe) :: pn)) (b₀ :: suite) (TSt K (ct.su a cls d) WF ms)) :
    PS X (.Try body [.ExceptHandler (some (.Name x np)) (some n) (b₀ :: suite) pos'] [] [] pos) (TSt K ct W (evTryA i mb cat ms)) := by
  subst eK
  exact (ps_try_as hs hf hN hi hln hc tk hb hsu).imp fun D σ H => w_tryA C
end
/-! in a suite: isinstance of the exception -/
def evIsE (i : Nat) (tbl : List (TyN × Bool)) : Ev := fun ρ => match ρ[i]? with
  | some (.exn c _) => (tbl.lookup (.o c)).map fun b => (.ok (.d (.bl b)), ρ)
  | _ => none
variable (K ad) in
inductive IseOk (u : Value) : List (TyN × Bool) → Prop
  | nil : IseOk u []
  | o {c : Cl} {x : Bool} {r : List (TyN × Bool)} (h : PySem.W.kitOne K (.ref (ad c)) u = some x) (k : ExcC K (ad c)) (t : IseOk u r) : IseOk u ((.o c, x) :: r)
theorem IseOk.get {u : Value} : ∀ {tbl : List (TyN × Bool)} {c : Cl} {x : Bool}, IseOk K ad u tbl → tbl.lookup (.o c) = some x → PySem.W.kitOne K (.ref (ad c)) u = some x ∧ ExcC K (ad c)
  | _, _, _, .nil, h => by cases h
  | _, c, x, .o (c := c0) (x := y) (r := r) h k0 k, e => by
    rw [List.lookup_cons] at e
    cases q : TyN.o c == TyN.o c0 with
    | true => rw [q] at e; have e : some y = some x := e; cases e; have := beq_iff_eq.mp q; cases this; exact ⟨h, k0⟩
    | false => rw [q] at e; exact k.get e
theorem pp_isE {X : Cx} {a : Addr} {oe : Obj} {cls : Value} {d : Option Addr} {pn : List (Addr × Obj)} {x : Str} {p p2 pos : Pos} {c : Expr} {cv : V} {u : Value} {tbl : List (TyN × Bool)} (i : Nat) (eK : X.K = K) (hz : Zc cls d oe) (hf : ∃ vs, oe.data = .fields vs) (T : IseOk K ct.ad u tbl) (hcv : ∀ w, RelV cv w → w = u) (hg : Gl (X.suite a ((a, oe) :: pn)) "isinstance") (hm : X.mg "isinstance" = none)
    (he : PE (X.suite a ((a, oe) :: pn)) (.Name x p2) (tVar i)) (hc : PE (X.suite a ((a, oe) :: pn)) c (tC cv))
    (h1 : starEach ((.Name x p2) :: [c]) X.env = (false, eval (.Name x p2) X.env) :: starEach [c] X.env := by rfl) (h2 : starEach [c] X.env = (false, eval c X.env) :: starEach [] X.env := by rfl) (hpl : (backTo pos (starEach [c] X.env)).any (·.1) = false := by rfl) :
    PE (X.suite a ((a, oe) :: pn)) (.Call (.Name "isinstance" p) [.Name x p2, c] [] pos) (TP K (ct.su a cls d) W (evIsE i tbl)) := by
  subst eK
  refine (pe_callB (x := "isinstance") (OW.c_isEE hz hf) hg hm (by decide +kernel) (pa_cons he (pa_cons hc pa_nil h2) h1) (by decide) (by decide) h1 hpl).imp fun σ H Q h => ?_
  obtain ⟨fr, F, ρ, S, r, ρ', e, q⟩ := h
  unfold evIsE at e
  split at e
  · rename_i c0 pl0 e1
    obtain ⟨b, e2, e3⟩ := map_some e
    cases e3
    obtain ⟨o, g1, g2, g3, g4⟩ := S.slot i _ e1
    subst g2
    obtain ⟨t1, t2⟩ := T.get e2
    refine ⟨_, g1, ct.ad c0, cv, u, b, rfl, g3, ?_, t2, hcv, t1, q _ F H (Same.refl _) S (Rp.bl b)⟩
    cases pl0 with
    | none => exact .inl g4
    | some d0 =>
      obtain ⟨dx, f', v, h1, h2, h3, h4⟩ := g4
      exact .inr ⟨dx, _, h1, S.fh _ _ h3⟩
  · cases e
/-! in a suite: the exception's field -/
def evXf (i : Nat) (c : Cl) : Ev := fun ρ => match ρ[i]? with
  | some (.exn c' (some d)) => if c' = c then some (.ok (.d d), ρ) else none
  | _ => none
/-! ### walks over own objects -/
def itO (c : Cl) (i : Nat) (e : Ev) : M (List D) := bnd (dat e) fun d => match d with
  | .obj c' xs => if c' = c then (match xs[i]? with | some (.tup ys) => pur ys | _ => fai) else fai
  | _ => fai
/-- an __iter__ that walks a field that is a tuple -/
def spIt (K : PySem.W.Frag) (C : Addr) (f : Str) (n : Nat) : Sp := fun vs H Q _ => ∃ (p dx t : Addr) (fs : List (Str × V)) (zs : List V), vs = [.ref p] ∧ H p = some (.ins C dx fs) ∧ fs.lookup f = some (.ref t) ∧ SqT K H t zs ∧ ∀ it, H it = none → n ≤ it → Q (.ref it) (upd H it (OW.TIt t it))
end PL
end
section
namespace PL
open PySem PySem.Spec PyProof.Rows L2
variable {K : PySem.W.Frag} {ad : Cl → Addr} {ct : CT}
variable {fr : Fr} {F F' H H' : Hp} {σ : L2.St} {ρ : List Sl} {W : WX}
/-! ### a list that may change is looked at -/
mutual
def D.lfree : D → Bool
  | .non => true | .bl _ => true | .int _ => true | .str _ => true | .cl _ => true
  | .tup xs => D.lfrees xs
  | .obj _ xs => D.lfrees xs
  | _ => false
def D.lfrees : List D → Bool
  | [] => true
  | x :: xs => x.lfree && D.lfrees xs
end
/-- a heap without p -/
def era (F : Hp) (p : Addr) : Hp := fun b => if b = p then none else F b
theorem era_ne {F : Hp} {p b : Addr} (h : b ≠ p) : era F p b = F b := if_neg h
theorem era_same {F : Hp} {p : Addr} : era F p p = none := if_pos rfl
mutual
theorem Rp.era {F : Hp} {p : Addr} {us : List V} (hp : F p = some (.lst us)) : ∀ {v : V} {d : D}, Rp K ad F v d → d.lfree = true → Rp K ad (PL.era F p) v d
  | _, _, .non, _ => .non
  | _, _, .bl b, _ => .bl b
  | _, _, .int i, _ => .int i
  | _, _, .str x, _ => .str x
  | _, _, .cl c, _ => .cl c
  | _, _, .tup (p := q) h r, e => .tup (by
      have ne : ∀ {o : HO}, F q = some o → (∀ xs, o ≠ .lst xs) → PL.era F p q = F q := fun {o} w z => era_ne fun y => by
        rw [y, hp] at w
        cases w
        exact z _ rfl
      (rcases h with (h | ⟨o, h⟩) | h)
      · exact .inl (.inl (by rw [ne h (fun _ z => by cases z)]; exact h))
      · exact .inl (.inr ⟨o, by rw [ne h (fun _ z => by cases z)]; exact h⟩)
      · exact .inr h) (Rps.era hp r e)
  | _, _, .obj (p := q) h l r, e => .obj (by rw [era_ne fun y => by rw [y, hp] at h; cases h]; exact h) l (Rps.era hp r e)
  | _, _, .lst _ _, e => by cases e
  | _, _, .sq _ _, e => by cases e
  | _, _, .dK _ _ _, e => by cases e
  | _, _, .dT _ _ _, e => by cases e
theorem Rps.era {F : Hp} {p : Addr} {us : List V} (hp : F p = some (.lst us)) : ∀ {vs : List V} {ds : List D}, Rps K ad F vs ds → D.lfrees ds = true → Rps K ad (PL.era F p) vs ds
  | _, _, .nil, _ => .nil
  | _, _, .cons (d := d) (ds := ds) h r, e => by
    have e : (d.lfree && D.lfrees ds) = true := e
    rw [Bool.and_eq_true] at e
    exact .cons (Rp.era hp h e.1) (Rps.era hp r e.2)
end
def Rv.lfree : Rv → Bool
  | .d x => x.lfree
  | .c (.lst xs) => D.lfrees xs
  | _ => false
/-- the slots as a look sees them -/
def lkS (j : Nat) (xs : List D) : Nat → List Sl → List Sl
  | _, [] => []
  | i, .cel _ _ :: r => (if i = j then .dat (.lst xs) else .un) :: lkS j xs (i + 1) r
  | i, s :: r => s :: lkS j xs (i + 1) r
theorem lkS_len (j : Nat) (xs : List D) : ∀ (i : Nat) (r : List Sl), (lkS j xs i r).length = r.length
  | _, [] => rfl
  | i, s :: r => by cases s <;> exact congrArg (· + 1) (lkS_len j xs (i + 1) r)
theorem lkS_get (j : Nat) (xs : List D) : ∀ (i : Nat) (r : List Sl) (n : Nat), (lkS j xs i r)[n]? = (r[n]?).map fun s => match s with | .cel _ _ => if i + n = j then .dat (.lst xs) else .un | s => s
  | _, [], _ => by simp [lkS]
  | i, s :: r, 0 => by cases s <;> simp [lkS]
  | i, s :: r, n + 1 => by
    have e : (lkS j xs i (s :: r))[n + 1]? = (lkS j xs (i + 1) r)[n]? := by cases s <;> rfl
    rw [e, lkS_get j xs (i + 1) r n, List.getElem?_cons_succ, show i + 1 + n = i + (n + 1) by omega]
def look {α : Type} (j : Nat) (ok : α → Bool) (m : M α) : M α := fun ρ => match ρ[j]? with
  | some (.cel _ (.lst xs)) => (match m (lkS j xs 0 ρ) with
    | some (.ok r, _) => if ok r then some (.ok r, ρ) else none
    | _ => none)
  | _ => none
def lkFr (fr : Fr) (F1 H : Hp) : Fr := ⟨fun b => if F1 b = none then H b else none, F1, fun _ => none⟩
theorem w_look {α β : Type} {R : Rel3 β α} {j : Nat} {good : α → Bool} {m : M α} {Q : β → Hp → Prop}
    (hR : ∀ {p : Addr} {us : List V} {F1 F' H' : Hp} {ρ' : List Sl} {v : β} {r : α}, F1 p = some (.lst us) → F p = none → H p = some (.lst us) → Rel K ct fr F H σ ρ → Rel K ct fr (era F' p) H' σ ρ → Same F1 F' → (∀ b, F1 b = none → H b ≠ none → b ≠ p) → (∀ b, b ≠ p → F1 b = F b) → good r = true → R (lkFr fr F1 H) F' H' σ ρ' v r → R fr (era F' p) H' σ ρ v r)
    (S : Rel K ct fr F H σ ρ) (h : Tat K ct R W fr F ρ (look j good m) σ Q) : T K ct R W m σ H Q := by
  obtain ⟨r, ρ', e, q⟩ := h
  unfold look at e
  split at e
  · rename_i k xs hj
    split at e
    · rename_i r0 ρ2 em
      split at e
      · rename_i hg
        cases e
        obtain ⟨o, g1, p, g2, g3, g4, g5, g6, us, g7, g8⟩ := S.slot j _ hj
        subst g2
        have s01 : Same F (upd F p (.lst us)) := fun b o z => by rw [upd_ne (ne_of_none z g3)]; exact z
        have S1 : Rel K ct (lkFr fr (upd F p (.lst us)) H) (upd F p (.lst us)) H σ (lkS j xs 0 ρ) := by
          have nc : ∀ {i : Nat} {k : CK} {c : CC}, (lkS j xs 0 ρ)[i]? ≠ some (.cel k c) := fun {i k c} z => by
            rw [lkS_get] at z
            cases y : ρ[i]? with
            | none => rw [y] at z; cases z
            | some s =>
              rw [y] at z
              cases s <;> simp at z
              split at z <;> cases z
          refine ⟨by rw [lkS_len]; exact S.len, fun b o z => ?_, fun i s z => ?_, fun a b k c k' c' p e1 _ _ _ => absurd e1 nc, fun b o z => ?_, fun b hb h0 => h0, fun i p z => by cases z⟩
          · by_cases y : b = p
            · subst y; rw [upd_same] at z; cases z; exact g7
            · rw [upd_ne y] at z; exact S.fh _ _ z
          · rw [lkS_get] at z
            cases y : ρ[i]? with
            | none => rw [y] at z; cases z
            | some s0 =>
              rw [y] at z
              obtain ⟨o, h1, h2⟩ := S.slot i _ y
              refine ⟨o, h1, ?_⟩
              cases s0 with
              | un => simp at z; subst z; trivial
              | dat d => simp at z; subst z; obtain ⟨v, a1, a2⟩ := h2; exact ⟨v, a1, a2.mono s01⟩
              | exn c pl => simp at z; subst z; exact ⟨h2.1, h2.2.1, h2.2.2.mono s01⟩
              | cel k c =>
                simp at z
                by_cases w : i = j
                · subst w
                  simp at z
                  subst z
                  rw [g1] at h1
                  cases h1
                  exact ⟨_, rfl, .lst upd_same (g8.mono s01)⟩
                · rw [if_neg w] at z
                  subst z
                  trivial
          · have z : (if upd F p (.lst us) b = none then H b else none) = some o := z
            split at z
            · exact z
            · cases z
        refine ⟨_, _, _, S1, .ok r0, ρ2, em, fun v F' H' s R1 rv => ?_⟩
        have P1 : ∀ b, upd F p (.lst us) b = none → (lkFr fr (upd F p (.lst us)) H).P b = H b := fun b z => if_pos z
        have hh : Same H H' := fun b o z => by
          cases y : upd F p (.lst us) b with
          | none => exact R1.keep b o (by rw [P1 b y]; exact z)
          | some o' =>
            have := S1.fh _ _ y
            rw [z] at this
            cases this
            exact R1.fh _ _ (s _ _ y)
        have al : Al F H (era F' p) H' := ⟨fun b o z => by rw [era_ne (ne_of_none z g3)]; exact s _ _ (s01 _ _ z), hh, fun b o z => by
          by_cases y : b = p
          · subst y; rw [era_same] at z; cases z
          · rw [era_ne y] at z; exact R1.fh _ _ z, fun b hb h0 => by
          by_cases y : b = p
          · subst y; exact era_same
          · rw [era_ne y]
            have z : upd F p (.lst us) b = none := by rw [upd_ne y]; exact h0
            exact R1.fro b (by rw [P1 b z]; exact hb) z⟩
        have S2 := S.al al
        exact q v _ H' al.1 S2 (hR upd_same g3 g7 S S2 s (fun b z _ y => by subst y; rw [upd_same] at z; cases z) (fun b y => upd_ne y) hg rv)
      · cases e
    · cases e
  · cases e
theorem look_v {X : Cx} {e : Expr} {m : Ev} (j : Nat) (h : PE X e (TP K ct W m)) : PE X e (TP K ct W (look j Rv.lfree m)) := h.imp fun σ H Q ⟨fr, F, ρ, S, h⟩ => by
  refine w_look (fun {p us F1 F' H' ρ' v r} h1 h2 h3 S S2 s nb eq hg rv => ?_) S h
  have hp : F' p = some (.lst us) := s _ _ h1
  cases r with
  | d d => exact Rp.era hp rv hg
  | c c =>
    cases c with
    | lst xs =>
      obtain ⟨p', e1, f1, f2, f3, ⟨vs, f4, f6⟩, f5⟩ := rv
      have f2 : (if F1 p' = none then H p' else none) = none := f2
      have n1 : F1 p' = none := by
        cases y : F1 p' with
        | none => rfl
        | some o => rw [s _ _ y] at f1; cases f1
      rw [if_pos n1] at f2
      have np : p' ≠ p := fun y => by rw [y, h3] at f2; cases f2
      refine ⟨p', e1, by rw [era_ne np]; exact f1, S.np f2, fun i z => ?_, ⟨vs, f4, Rps.era hp f6 hg⟩, fun i k c z1 z2 => ?_⟩
      · obtain ⟨k, c, y1, y2⟩ := S.pcs i _ z
        obtain ⟨o, a1, p2, a2, a3, a4, a5, a6, a7⟩ := S.slot i _ y1
        rw [a5 y2] at z
        cases z
        obtain ⟨o, ho⟩ := a7.at
        rw [f2] at ho
        cases ho
      · obtain ⟨p2, o, y1, y2⟩ := S.cell_at z1
        rw [y1] at z2
        cases z2
        rw [f2] at y2
        cases y2
    | _ => cases hg
theorem look_b {X : Cx} {e : Expr} {m : M Bool} (j : Nat) (h : PT X e (TB K ct W m)) : PT X e (TB K ct W (look j (fun _ => true) m)) := h.imp fun σ H Q ⟨fr, F, ρ, S, h⟩ => w_look (fun {p us F1 F' H' ρ' v r} h1 h2 h3 S S2 s nb eq hg rv => rv) S h
/-! ### truth -/
def D.truth : D → Option Bool
  | .bl b => some b | .int i => some (decide (i ≠ 0)) | .non => some false
  | .lst xs => some (!xs.isEmpty) | .sq xs => some (!xs.isEmpty) | .tup xs => some (!xs.isEmpty)
  | _ => none
theorem Rps.emp {F : Hp} : ∀ {vs : List V} {ds : List D}, Rps K ad F vs ds → vs.isEmpty = ds.isEmpty
  | _, _, .nil => rfl
  | _, _, .cons _ _ => rfl
theorem Rp.tru {F H : Hp} {v : V} {d : D} {b : Bool} (s : Same F H) (r : Rp K ad F v d) (h : d.truth = some b) : TruV K v H b := by
  cases r with
  | non => cases h; rfl
  | bl _ => cases h; rfl
  | int i => cases h; show _ = _; by_cases e : i = 0 <;> simp [e]
  | str _ => cases h
  | tup h1 k1 => cases h; exact .inr (.inl ⟨_, sameT s h1, by rw [k1.emp]⟩)
  | lst h1 k1 => cases h; exact .inl ⟨_, .inl (.inl (s _ _ h1)), by rw [k1.emp]⟩
  | sq h1 k1 => cases h; exact .inl ⟨_, s.seq h1, by rw [k1.emp]⟩
  | obj _ _ _ => cases h
  | cl _ => cases h
  | dK _ _ _ => cases h
  | dT _ _ _ => cases h
def tTr (m : Ev) : M Bool := bnd (dat m) fun d => opt d.truth
def vNoT (m : Ev) : Ev := bnd (dat m) fun d => opt (d.truth.map fun b => Rv.d (.bl (!b)))
theorem pp_ttr {X : Cx} {a : Expr} {m : Ev} (eK : X.K = K) (ha : PE X a (TP K ct W m)) (he : ∀ whole, isTrue a X.env whole = (do let v ← whole; standAt a.pos; holding [v] (truthy v)) := by intro _; rfl) : PT X a (TB K ct W (tTr m)) := by
  subst eK
  refine (pt_truth ha he).imp fun σ H Q ⟨fr, F, ρ, S, h⟩ => ?_
  refine Tat.dat h S fun F1 H1 ρ1 v d s1 S1 r1 h => ?_
  obtain ⟨b, e, q⟩ := h.opt
  exact ⟨b, r1.tru S1.fh e, q b F1 H1 (Same.refl _) S1 rfl⟩
/-! ### [::-1] -/
def evRev (m : Ev) : Ev := bnd (dat m) fun d => match d.litems with | some xs => pur (.c (.lst xs.reverse)) | none => fai
theorem pp_rev {X : Cx} {e : Expr} {m : Ev} {k : Nat} {p1 p2 p3 pos : Pos} (eK : X.K = K) (he : PE X e (TP K ct W m)) : PE X (.Subscript e (.Slice none none (some (.UnaryOp .USub (.Constant (.int 1) k p1) p2)) p3) pos) (TP K ct W (evRev m)) := by
  subst eK
  refine (pe_revL he).imp fun σ H Q ⟨fr, F, ρ, S, h⟩ => ?_
  refine Tat.dat h S fun F1 H1 ρ1 v d s1 S1 r1 h => ?_
  cases el : d.litems with
  | none => rw [el] at h; obtain ⟨_, _, e, _⟩ := h; cases e
  | some xs =>
    rw [el] at h
    have key : ∀ {a : Addr} {vs : List V}, SqL X.K H1 a vs → Rps X.K ct.ad F1 vs xs → ∃ a' ys, V.ref a = .ref a' ∧ SqL X.K H1 a' ys ∧ ∀ p, H1 p = none → Q (.ref p) (upd H1 p (.lst ys.reverse)) := fun {a vs} h1 k1 => ⟨a, vs, rfl, h1, fun p hp => Tat.ok h _ F1 _ (Same.refl _) (S1.newC hp) ⟨p, rfl, S1.fresh hp ⟨_, upd_same, k1.rev⟩⟩⟩
    cases r1 with
    | lst h1 k1 => cases el; exact key (.inl (.inl (S1.fh _ _ h1))) k1
    | sq h1 k1 => cases el; exact key (S1.fh.seq h1) k1
    | _ => cases el
end PL
end
section
namespace PL
open PySem PySem.Spec PyProof.Rows L2
variable {K : PySem.W.Frag} {ad : Cl → Addr} {ct : CT}
variable {fr : Fr} {F F' H H' : Hp} {σ : L2.St} {ρ : List Sl} {W : WX}
/-! ### a op b op c op d as a test -/
def ch3 (g g' g'' : D → D → Option D) (a b c d : Ev) : M Bool := bnd (dat a) fun x => bnd (dat b) fun y => bnd (opt (g x y)) fun z => match z with
  | .bl true => bnd (dat c) fun u => bnd (opt (g' y u)) fun z2 => (match z2 with
    | .bl true => bnd (dat d) fun v => bnd (opt (g'' u v)) fun z3 => (match z3 with | .bl k => pur k | _ => fai)
    | .bl false => pur false
    | _ => fai)
  | .bl false => pur false
  | _ => fai
theorem pp_tch3 {X : Cx} {a b c d : Expr} {fa fb fc fd : Ev} {pos : Pos} {op op' op'' : CmpOp} {r r' r'' : R2} {g g' g'' : D → D → Option D} (h1 : OpR X (compareOp op) r) (h2 : OpR X (compareOp op') r') (h3 : OpR X (compareOp op'') r'') (O : O2 K ct.ad r g) (O' : O2 K ct.ad r' g') (O'' : O2 K ct.ad r'' g'')
    (ha : PE X a (TP K ct W fa)) (hb : PE X b (TP K ct W fb)) (hc : PE X c (TP K ct W fc)) (hd : PE X d (TP K ct W fd)) (hm : lastMarks [op, op', op''] [b, c, d] = false := by with_unfolding_all rfl) :
    PT X (.Compare a [op, op', op''] [b, c, d] pos) (TB K ct W (ch3 g g' g'' fa fb fc fd)) := (OW.pt_chain3 h1 h2 h3 ha hb hc hd hm).imp fun σ H Q ⟨fr, F, ρ, S, h⟩ => by
  refine Tat.dat h S fun F1 H1 ρ1 x dx s1 S1 r1 h => ?_
  refine Tat.dat h S1 fun F2 H2 ρ2 y dy s2 S2 r2 h => ?_
  obtain ⟨z, ez, h⟩ := h.optb
  refine O S2.fh (r1.mono s2) r2 ez fun v rv => ?_
  cases z with
  | bl k =>
    cases rv
    refine ⟨k, rfl, ?_⟩
    cases k with
    | false => exact Tat.ok (a := false) h _ F2 H2 (Same.refl _) S2 rfl
    | true =>
      refine Tat.dat h S2 fun F3 H3 ρ3 u du s3 S3 r3 h => ?_
      obtain ⟨z2, ez2, h⟩ := h.optb
      refine O' S3.fh (r2.mono s3) r3 ez2 fun v rv => ?_
      cases z2 with
      | bl k2 =>
        cases rv
        refine ⟨k2, rfl, ?_⟩
        cases k2 with
        | false => exact Tat.ok (a := false) h _ F3 H3 (Same.refl _) S3 rfl
        | true =>
          refine Tat.dat h S3 fun F4 H4 ρ4 w dw s4 S4 r4 h => ?_
          obtain ⟨z3, ez3, h⟩ := h.optb
          refine O'' S4.fh (r3.mono s4) r4 ez3 fun v rv => ?_
          cases z3 with
          | bl k3 => cases rv; exact ⟨k3, rfl, Tat.ok (a := k3) h _ F4 H4 (Same.refl _) S4 rfl⟩
          | _ => obtain ⟨_, _, e, _⟩ := h; cases e
      | _ => obtain ⟨_, _, e, _⟩ := h; cases e
  | _ => obtain ⟨_, _, e, _⟩ := h; cases e
/-! ### a class's constant -/
theorem pp_cval {X : Cx} {x f : Str} {p pos : Pos} {d : D} {v : V} (c : Cl) (hm : X.mg x = some (.ref (ct.ad c))) (r : ClX.CRead X.K (ct.ad c) (.type "type")) (hv : ∃ u, PySem.W.findCls X.K (.ref (ct.ad c)) (.type "type") f = some (.val u) ∧ RelV v u) (hg : Gl X x := by rfl) (hdb : (x == ("__debug__" : Str)) = false := by decide)
    (hb : attributeBase (.Name x p) f X.env (eval (.Name x p) X.env) = eval (.Name x p) X.env := by rfl) (hd : d.toV = some v := by rfl) : PE X (.Attribute (.Name x p) f pos) (TP K ct W (vD d)) :=
  (ClX.pe_cval (C8.pe_gc (v := .ref (ct.ad c)) hg ⟨_, hm, rfl⟩ hdb) hb).imp fun σ H Q ⟨fr, F, ρ, S, h⟩ => by
  obtain ⟨u, h1, h2⟩ := hv
  exact ⟨_, _, v, u, rfl, r, ⟨h1, h2⟩, Tat.ok (a := Rv.d d) h v F H (Same.refl _) S (D.toV_rp hd)⟩
/-! ### dicts that change, their keys ints or texts -/
def D.key : D → Option Key | .int i => some (.inl i) | .str s => some (.inr s) | _ => none
theorem Rp.key {F : Hp} {v : V} {d : D} {k : Key} (r : Rp K ad F v d) (h : d.key = some k) : v = kV k := by
  cases r <;> cases h <;> rfl
def dval (kvs : List (Key × D)) (k : Key) : Option D := (kvs.find? fun kv => decide (kv.1 = k)).map (·.2)
def dput (kvs : List (Key × D)) (k : Key) (d : D) : List (Key × D) := if (kvs.any fun kv => decide (kv.1 = k)) = true then kvs.map (fun kv => if kv.1 = k then (kv.1, d) else kv) else kvs ++ [(k, d)]
theorem dval_zip {F : Hp} {k : Key} : ∀ {kvs : List (Key × D)} {vs : List V}, Rps K ad F vs (kvs.map (·.2)) → (dval kvs k = none ∧ valV ((kvs.map (·.1)).zip vs) k = none) ∨ ∃ d v, dval kvs k = some d ∧ valV ((kvs.map (·.1)).zip vs) k = some v ∧ Rp K ad F v d
  | [], _, h => by cases h; exact .inl ⟨rfl, rfl⟩
  | (k0, d0) :: kvs, _, h => by
    rw [List.map_cons] at h
    cases h with
    | cons h t =>
      rename_i v vs
      by_cases e : k0 = k
      · refine .inr ⟨d0, v, ?_, ?_, h⟩
        · simp [dval, e]
        · simp [valV, e]
      · rcases dval_zip (k := k) t with ⟨a, b⟩ | ⟨d, v', a, b, r⟩
        · refine .inl ⟨?_, ?_⟩
          · simpa [dval, e] using a
          · simpa [valV, e] using b
        · refine .inr ⟨d, v', ?_, ?_, r⟩
          · simpa [dval, e] using a
          · simpa [valV, e] using b
theorem any_zip {k : Key} : ∀ {kvs : List (Key × D)} {vs : List V}, vs.length = kvs.length → (((kvs.map (·.1)).zip vs).any fun kv => decide (kv.1 = k)) = kvs.any fun kv => decide (kv.1 = k)
  | [], vs, _ => rfl
  | _ :: _, [], h => by cases h
  | (k0, d0) :: kvs, v :: vs, h => by
    show (decide (k0 = k) || (((kvs.map (·.1)).zip vs).any fun kv => decide (kv.1 = k))) = (decide (k0 = k) || _)
    rw [any_zip (kvs := kvs) (vs := vs) (by simpa using h)]
theorem map_zip {F : Hp} {k : Key} {v : V} {d : D} (r : Rp K ad F v d) : ∀ {kvs : List (Key × D)} {vs : List V}, Rps K ad F vs (kvs.map (·.2)) → ∃ vs', ((kvs.map (·.1)).zip vs).map (fun kv => if kv.1 = k then (kv.1, v) else kv) = ((kvs.map (fun kv => if kv.1 = k then (kv.1, d) else kv)).map (·.1)).zip vs' ∧ Rps K ad F vs' ((kvs.map (fun kv => if kv.1 = k then (kv.1, d) else kv)).map (·.2))
  | [], _, h => by cases h; exact ⟨[], rfl, .nil⟩
  | (k0, d0) :: kvs, _, h => by
    rw [List.map_cons] at h
    cases h with
    | cons h t =>
      rename_i v0 vs
      obtain ⟨vs', a, b⟩ := map_zip (k := k) r t
      by_cases e : k0 = k
      · refine ⟨v :: vs', ?_, ?_⟩
        · simp only [List.map_cons, List.zip_cons_cons, if_pos e]
          rw [← a]
        · simp only [List.map_cons, if_pos e]
          exact .cons r b
      · refine ⟨v0 :: vs', ?_, ?_⟩
        · simp only [List.map_cons, List.zip_cons_cons, if_neg e]
          rw [← a]
        · simp only [List.map_cons, if_neg e]
          exact .cons h b
theorem dput_zip {F : Hp} {k : Key} {v : V} {d : D} (r : Rp K ad F v d) {kvs : List (Key × D)} {vs : List V} (h : Rps K ad F vs (kvs.map (·.2))) : ∃ vs', putK ((kvs.map (·.1)).zip vs) k v = ((dput kvs k d).map (·.1)).zip vs' ∧ Rps K ad F vs' ((dput kvs k d).map (·.2)) := by
  have l : vs.length = kvs.length := by rw [h.len, List.length_map]
  unfold putK dput
  rw [any_zip l]
  split
  · exact map_zip r h
  · refine ⟨vs ++ [v], ?_, ?_⟩
    · rw [List.map_append, List.zip_append (by simp [l])]; rfl
    · rw [List.map_append]; exact h.snoc r
def isK (j : Nat) : Ev := fun ρ => match ρ[j]? with | some (.cel _ (.dK _)) => some (.ok (.d .non), ρ) | _ => none
def getK (j : Nat) (f : List (Key × D) → Option D) : Ev := fun ρ => match ρ[j]? with
  | some (.cel _ (.dK kvs)) => (f kvs).map fun d => (.ok (.d d), ρ)
  | _ => none
/-- d[k], d in slot j -/
def evDGet (j : Nat) (ke : Ev) : Ev := bnd (isK j) fun _ => bnd (dat ke) fun k => getK j fun kvs => k.key.bind (dval kvs)
/-- d.get(k, x) -/
def evDGet2 (j : Nat) (ke de : Ev) : Ev := bnd (isK j) fun _ => bnd (dat ke) fun k => bnd (dat de) fun d => getK j fun kvs => k.key.map fun k => (dval kvs k).getD d
/-- k in d -/
def evDIn (j : Nat) (ke : Ev) : Ev := bnd (dat ke) fun k => getK j fun kvs => k.key.map fun k => .bl (dval kvs k).isSome
/-- d[k] = e -/
def evDPut (j : Nat) (ke e : Ev) : M Fl := bnd (dat e) fun d => bnd (isK j) fun _ => bnd (dat ke) fun k => fun ρ => match ρ[j]? with
  | some (.cel c (.dK kvs)) => (match k.key with
    | some k => if kvs.length < 16777216 then some (.ok .nx, ρ.set j (.cel c (.dK (dput kvs k d)))) else none
    | none => none)
  | _ => none
theorem isK_eq {j : Nat} {r : Ex Rv} {ρ' : List Sl} (e : isK j ρ = some (r, ρ')) (S : Rel K ct fr F H σ ρ) : ∃ p kvs, r = .ok (.d .non) ∧ ρ' = ρ ∧ σ[j]? = some (some (.ref p)) ∧ H p = some (.dK kvs) := by
  unfold isK at e
  split at e
  · rename_i k kvs h
    cases e
    obtain ⟨o, g1, p, a1, a2, a3, a4, a5, vs, a6, a7⟩ := S.slot j _ h
    subst a1
    exact ⟨p, _, rfl, rfl, g1, a6⟩
  · cases e
theorem Tat.isK {δ γ : Type} {R' : Rel3 δ γ} {j : Nat} {k : Rv → M γ} {Q : δ → Hp → Prop} (h : Tat K ct R' W fr F ρ (PL.bnd (PL.isK j) k) σ Q) (S : Rel K ct fr F H σ ρ) :
    ∃ p kvs, σ[j]? = some (some (.ref p)) ∧ H p = some (.dK kvs) ∧ Tat K ct R' W fr F ρ (k (.d .non)) σ Q := by
  obtain ⟨r, ρ', e, q⟩ := h
  unfold PL.bnd at e
  cases em : PL.isK j ρ with
  | none => rw [em] at e; cases e
  | some x =>
    obtain ⟨r1, ρ1⟩ := x
    rw [em] at e
    obtain ⟨p, kvs, rfl, rfl, g1, g2⟩ := isK_eq em S
    exact ⟨p, kvs, g1, g2, r, ρ', e, q⟩
theorem Sat.isK {D : Ends} {j : Nat} {k : Rv → M Fl} (h : Sat K ct W D fr F ρ (PL.bnd (PL.isK j) k)) (S : Rel K ct fr F H σ ρ) :
    ∃ p kvs, σ[j]? = some (some (.ref p)) ∧ H p = some (.dK kvs) ∧ Sat K ct W D fr F ρ (k (.d .non)) := by
  obtain ⟨r, ρ', e, q⟩ := h
  unfold PL.bnd at e
  cases em : PL.isK j ρ with
  | none => rw [em] at e; cases e
  | some x =>
    obtain ⟨r1, ρ1⟩ := x
    rw [em] at e
    obtain ⟨p, kvs, rfl, rfl, g1, g2⟩ := isK_eq em S
    exact ⟨p, kvs, g1, g2, r, ρ', e, q⟩
theorem Tat.getK {j : Nat} {f : List (Key × D) → Option D} {Q : VK} (h : Tat K ct (RV K ct.ad) W fr F ρ (PL.getK j f) σ Q) (S : Rel K ct fr F H σ ρ) {p : Addr} (hp : σ[j]? = some (some (.ref p))) :
    ∃ kvs vs d, H p = some (.dK ((kvs.map (·.1)).zip vs)) ∧ Rps K ct.ad F vs (kvs.map (·.2)) ∧ f kvs = some d ∧ ∀ v, Rp K ct.ad F v d → Q v H := by
  obtain ⟨r, ρ', e, q⟩ := h
  unfold PL.getK at e
  split at e
  · rename_i k kvs h
    obtain ⟨d, e1, e2⟩ := map_some e
    cases e2
    obtain ⟨o, g1, p', a1, a2, a3, a4, a5, vs, a6, a7⟩ := S.slot j _ h
    subst a1
    rw [hp] at g1
    cases g1
    exact ⟨kvs, vs, d, a6, a7, e1, fun v r => q v F H (Same.refl _) S r⟩
  · cases e
section
variable {X : Cx} {x : Str} {p pos : Pos} {ke de : Expr} {fk fd : Ev}
theorem pp_dnew : PE X (.Dict [] [] pos) (TP K ct W (pur (.c (.dK [])))) := pe_dnewK.imp fun σ H Q ⟨fr, F, ρ, S, h⟩ => fun p hp => Tat.ok h _ F _ (Same.refl _) (S.newC hp) ⟨p, rfl, S.fresh hp ⟨[], upd_same, .nil⟩⟩
theorem pp_dget (j : Nat) (hu : X.A.units + 1 < cLine) (ho : PE X (.Name x p) (tVar j)) (hk : PE X ke (TP K ct W fk)) (hs : NoSl ke) : PE X (.Subscript (.Name x p) ke pos) (TP K ct W (evDGet j fk)) := (pe_dget hu ho hk hs).imp fun σ H Q ⟨fr, F, ρ, S, h⟩ => by
  obtain ⟨p, kvs0, h1, h2, h⟩ := Tat.isK h S
  refine ⟨_, h1, ?_⟩
  refine Tat.dat h S fun F1 H1 ρ1 y dk s1 S1 r1 h => ?_
  obtain ⟨kvs, vs, d, g1, g2, g3, q⟩ := Tat.getK h S1 h1
  cases ek : dk.key with
  | none => rw [ek] at g3; cases g3
  | some k =>
    rw [ek] at g3
    have g3 : dval kvs k = some d := g3
    rcases dval_zip (k := k) g2 with ⟨a, _⟩ | ⟨d', v, a, b, r⟩
    · rw [g3] at a; cases a
    · rw [g3] at a
      cases a
      refine ⟨p, v, rfl, ?_, q v r⟩
      rw [r1.key ek, ← b]
      exact DGet.k g1
theorem pp_dget2 {apos cpos : Pos} (j : Nat) (hu : X.A.units + 1 < cLine) (ho : PE X (.Name x p) (tVar j)) (hk : PE X ke (TP K ct W fk)) (hd : PE X de (TP K ct W fd)) (m : M2 X (.Name x p) "get" apos ke de cpos) : PE X (.Call (.Attribute (.Name x p) "get" apos) [ke, de] [] cpos) (TP K ct W (evDGet2 j fk fd)) := (L2.pe_dget2 hu ho hk hd m).imp fun σ H Q ⟨fr, F, ρ, S, h⟩ => by
  obtain ⟨p, kvs0, h1, h2, h⟩ := Tat.isK h S
  refine ⟨_, h1, p, rfl, .inl ⟨kvs0, .inl h2⟩, ?_⟩
  refine Tat.dat h S fun F1 H1 ρ1 y dk s1 S1 r1 h => ?_
  refine Tat.dat h S1 fun F2 H2 ρ2 z dz s2 S2 r2 h => ?_
  obtain ⟨kvs, vs, d, g1, g2, g3, q⟩ := Tat.getK h S2 h1
  obtain ⟨k, ek, e⟩ := map_some g3
  rcases dval_zip (k := k) g2 with ⟨a, b⟩ | ⟨d', v, a, b, r⟩
  · rw [a] at e
    subst e
    refine ⟨none, ?_, q z r2⟩
    rw [r1.key ek, ← b]
    exact DGet.k g1
  · rw [a] at e
    subst e
    refine ⟨some v, ?_, q v r⟩
    rw [r1.key ek, ← b]
    exact DGet.k g1
theorem s_dput {e : Expr} {fe : Ev} {pos' : Pos} (j : Nat) (hu : X.A.units + 1 < cLine) (ho : PE X (.Name x p) (tVar j)) (hk : PE X ke (TP K ct W fk)) (he : PE X e (TP K ct W fe)) (hs : swapsWith e (some (.Subscript (.Name x p) ke pos')) pos.line X.env = pure false := by rfl) :
    PS X (.Assign [.Subscript (.Name x p) ke pos'] e pos) (TSt K ct W (evDPut j fk fe)) := (ps_dput hu ho hk he hs).imp fun D σ H ⟨fr, F, ρ, S, h⟩ => by
  refine h.dat S fun F1 H1 ρ1 v d s1 S1 r1 h => ?_
  obtain ⟨p, kvs0, h1, h2, h⟩ := Sat.isK h S1
  refine ⟨_, h1, ?_⟩
  refine h.dat S1 fun F2 H2 ρ2 y dk s2 S2 r2 h => ?_
  obtain ⟨r0, ρ', e, q⟩ := h
  dsimp only at e
  cases e2 : ρ2[j]? with
  | none => rw [e2] at e; cases e
  | some sl =>
    rw [e2] at e
    cases sl with
    | cel c cc =>
      cases cc with
      | dK kvs =>
        dsimp only at e
        cases ek : dk.key with
        | none => rw [ek] at e; cases e
        | some k =>
          rw [ek] at e
          dsimp only at e
          split at e
          · rename_i sz
            cases e
            obtain ⟨o, g1, p', a1, a2, a3, a4, a5, vs, a6, a7⟩ := S2.slot j _ e2
            subst a1
            rw [h1] at g1
            cases g1
            obtain ⟨vs', b1, b2⟩ := dput_zip (k := k) (r1.mono s2) a7
            have l : vs.length = kvs.length := by rw [a7.len, List.length_map]
            refine ⟨p, _, rfl, ?_, q σ F2 _ (Same.refl _) (S2.updC (o := .dK (putK ((kvs.map (·.1)).zip vs) k v)) e2 h1 rfl ⟨vs', by rw [upd_same, b1], b2⟩)⟩
            rw [r2.key ek]
            exact DPut.k a6 (by rw [List.length_zip, List.length_map, l, Nat.min_self]; exact sz)
          · cases e
      | _ => cases e
    | _ => cases e
/-- sorted(d, reverse=True), the keys ints -/
def keysI : List (Key × D) → Option (List Int)
  | [] => some []
  | (.inl i, _) :: r => (keysI r).map (i :: ·)
  | _ => none
theorem keysI_map : ∀ {kvs : List (Key × D)} {ks : List Int}, keysI kvs = some ks → kvs.map (·.1) = ks.map Sum.inl
  | [], _, h => by cases h; rfl
  | (.inl i, d) :: r, _, h => by
    have h : (keysI r).map (i :: ·) = some _ := h
    obtain ⟨ks, e1, e2⟩ := map_some h
    subst e2
    rw [List.map_cons, List.map_cons, keysI_map e1]
  | (.inr _, d) :: r, _, h => by cases h
def insG (x : Int) : List Int → List Int
  | [] => [x]
  | y :: r => if y ≤ x then x :: y :: r else y :: insG x r
/-- from the greatest down -/
def down : List Int → List Int
  | [] => []
  | x :: r => insG x (down r)
theorem insG_perm (x : Int) : ∀ r : List Int, (insG x r).Perm (x :: r)
  | [] => .refl _
  | y :: r => by
    unfold insG
    split
    · exact .refl _
    · exact ((insG_perm x r).cons y).trans (.swap x y r)
theorem down_perm : ∀ r : List Int, (down r).Perm r
  | [] => .refl _
  | x :: r => (insG_perm x (down r)).trans ((down_perm r).cons x)
theorem insG_srt (x : Int) : ∀ {r : List Int}, r.Pairwise (· ≥ ·) → (insG x r).Pairwise (· ≥ ·)
  | [], _ => List.pairwise_singleton _ _
  | y :: r, h => by
    unfold insG
    (obtain ⟨h1, h2⟩ := List.pairwise_cons.mp h)
    split
    · rename_i e
      refine List.pairwise_cons.mpr ⟨fun z hz => ?_, h⟩
      (rcases List.mem_cons.mp hz with rfl | hz)
      · exact e
      · have := h1 z hz; show z ≤ x; have : z ≤ y := this; omega
    · rename_i e
      refine List.pairwise_cons.mpr ⟨fun z hz => ?_, insG_srt x h2⟩
      rcases List.mem_cons.mp ((insG_perm x r).mem_iff.mp hz) with rfl | hz
      · show z ≤ y; omega
      · exact h1 z hz
theorem down_srt : ∀ r : List Int, (down r).Pairwise (· ≥ ·)
  | [] => .nil
  | x :: r => insG_srt x (down_srt r)
theorem srt_one : ∀ {xs ys : List Int}, xs.Perm ys → xs.Pairwise (· ≥ ·) → ys.Pairwise (· ≥ ·) → xs = ys
  | [], ys, p, _, _ => (List.Perm.nil_eq p)
  | x :: xs, [], p, _, _ => by have := p.length_eq; cases this
  | x :: xs, y :: ys, p, h, k => by
    (obtain ⟨h1, h2⟩ := List.pairwise_cons.mp h)
    obtain ⟨k1, k2⟩ := List.pairwise_cons.mp k
    have a : x ≤ y := by
      rcases List.mem_cons.mp (p.mem_iff.mp List.mem_cons_self) with rfl | z
      · exact Int.le_refl _
      · exact k1 x z
    have b : y ≤ x := by
      rcases List.mem_cons.mp (p.mem_iff.mpr List.mem_cons_self) with rfl | z
      · exact Int.le_refl _
      · exact h1 y z
    have e : x = y := Int.le_antisymm a b
    subst e
    rw [srt_one (List.Perm.cons_inv p) h2 k2]
def evSortDR (j : Nat) : Ev := fun ρ => match ρ[j]? with
  | some (.cel _ (.dK kvs)) => (keysI kvs).map fun ks => (.ok (.c (.lst ((down ks).map D.int))), ρ)
  | _ => none
theorem Rps.ofInts {F : Hp} : ∀ ns : List Int, Rps K ad F (ns.map V.int) (ns.map D.int)
  | [] => .nil
  | n :: ns => .cons (.int n) (Rps.ofInts ns)
theorem pp_sortDR {q p2 pos : Pos} {kk : Nat} {nm : Option Str} {kp : Pos} (j : Nat) (hc : X.calm = true) (hg : Gl X "sorted") (hm : X.mg "sorted" = none) (ho : PE X (.Name x p2) (tVar j))
    (he : backTo pos (starEach [.Name x p2] X.env) = (false, eval (.Name x p2) X.env) :: backTo pos (starEach [] X.env) := by rfl) (hpl : (backTo pos (starEach [.Name x p2] X.env)).any (·.1) = false := by rfl)
    (hst : starEach [.Name x p2] X.env = (false, eval (.Name x p2) X.env) :: starEach [] X.env := by rfl)
    (hall : (backToKw pos (keywordEach [⟨nm, .Constant (.bool true) kk q, kp⟩] X.env)).all (·.1.isSome) = true := by rfl) (hnone : (backToKw pos (keywordEach [⟨nm, .Constant (.bool true) kk q, kp⟩] X.env)).any (·.1.isNone) = false := by rfl) (hks : (backToKw pos (keywordEach [⟨nm, .Constant (.bool true) kk q, kp⟩] X.env)).filterMap (·.1) = [("reverse" : Str)] := by rfl) :
    PE X (.Call (.Name "sorted" p) [.Name x p2] [⟨nm, .Constant (.bool true) kk q, kp⟩] pos) (TP K ct W (evSortDR j)) :=
  (pe_callBK (x := "sorted") (OW.c_sortDR hc) hg hm (by decide +kernel) (pa_cons ho pa_nil hst) (pk_cons pe_bl pk_nil) (by decide) (by decide) he hpl hall hnone hks).imp fun σ H Q ⟨fr, F, ρ, S, r, ρ', e, q⟩ => by
  unfold evSortDR at e
  split at e
  · rename_i k kvs h
    obtain ⟨ks, e1, e2⟩ := map_some e
    cases e2
    obtain ⟨o, g1, p', a1, a2, a3, a4, a5, vs, a6, a7⟩ := S.slot j _ h
    subst a1
    have l : vs.length = kvs.length := by rw [a7.len, List.length_map]
    refine ⟨_, g1, p', _, ks, rfl, rfl, .inl a6, ?_, fun ys p hp hs hn => ?_⟩
    · rw [← keysI_map e1, List.map_fst_zip (by simp [l])]
    · have : ys = down ks := srt_one (hp.trans (down_perm ks).symm) hs (down_srt ks)
      subst this
      exact q _ F _ (Same.refl _) (S.newC hn) ⟨p, rfl, S.fresh hn ⟨_, upd_same, Rps.ofInts _⟩⟩
  · cases e
end
/-! ### max(.., default=n) -/
def gMaxD (n : Int) : List D → Option D | [d] => (lints d).map fun ns => .int (OW.maxL n ns) | _ => none
def evMaxD (es : List DE) (de : Ev) : Ev := bnd (evDs es) fun ds => bnd (dat de) fun d => match d with | .int n => opt ((gMaxD n ds).map Rv.d) | _ => fai
theorem pp_maxD {X : Cx} {e de : Expr} {es : List DE} {fd : Ev} {p pos kp : Pos} {nm : Option Str} (hc : X.calm = true) (hu : X.A.units + 64 < cLine) (eK : X.K = K) (hg : Gl X "max") (hm : X.mg "max" = none) (ha : PA X [e] (TD K ct W (evDs es))) (hd : PE X de (TP K ct W fd))
    (he : backTo pos (starEach [e] X.env) = (false, eval e X.env) :: backTo pos (starEach [] X.env) := by rfl) (hpl : (backTo pos (starEach [e] X.env)).any (·.1) = false := by rfl)
    (hall : (backToKw pos (keywordEach [⟨nm, de, kp⟩] X.env)).all (·.1.isSome) = true := by rfl) (hnone : (backToKw pos (keywordEach [⟨nm, de, kp⟩] X.env)).any (·.1.isNone) = false := by rfl) (hks : (backToKw pos (keywordEach [⟨nm, de, kp⟩] X.env)).filterMap (·.1) = [("default" : Str)] := by rfl) :
    PE X (.Call (.Name "max" p) [e] [⟨nm, de, kp⟩] pos) (TP K ct W (evMaxD es fd)) := by
  subst eK
  refine (pe_callBK (x := "max") (OW.c_maxD hc hu) hg hm (by decide +kernel) ha (pk_cons hd pk_nil) (by decide) (by decide) he hpl hall hnone hks).imp fun σ H Q ⟨fr, F, ρ, S, h⟩ => ?_
  refine Tat.bnd h S fun F1 H1 ρ1 vs ds s1 S1 r1 h => ?_
  refine Tat.dat h S1 fun F2 H2 ρ2 v d s2 S2 r2 h => ?_
  cases d with
  | int n =>
    cases r2
    obtain ⟨r, e, q⟩ := h.opt
    obtain ⟨z, e1, e2⟩ := map_some e
    subst e2
    unfold gMaxD at e1
    split at e1
    · rename_i d
      obtain ⟨ns, g1, g2⟩ := map_some e1
      subst g2
      obtain ⟨u, rfl, ru⟩ := one_i r1
      obtain ⟨xs, k1, k2⟩ := lints_i g1
      obtain ⟨a, rfl, hs⟩ := (ru.mono s2).lints S2.fh k1 k2
      exact ⟨a, ns, n, rfl, rfl, hs, q _ F2 H2 (Same.refl _) S2 (Rp.int _)⟩
    · cases e1
  | _ => obtain ⟨_, _, e, _⟩ := h; cases e
end PL
namespace PL
open PySem PySem.Spec PyProof.Rows L2
theorem fn_none {P : Program} {w : World} {K : PySem.W.Frag} {ad : Cl → Addr} {mg : Str → Option Value} {base : Heap} {CX : CXT} {k n : Nat} {f : Addr} {fd : FuncData} {ps : List Str} : FnOk P w K mg base CX k f fd ps (spP K ad n fun _ => none) :=
  have z : ∀ {vs : List V} {H : Hp} {Q : VK} {E : XK}, ¬ spP K ad n (fun _ => none) vs H Q E := fun {vs H Q E} ⟨_, _, _, _, _, _, _, _, _, e, _⟩ => by cases e
  ⟨fun _ _ _ _ h => (z h).elim, fun _ _ _ _ _ _ _ _ _ _ _ _ _ h => (z h).elim⟩
end PL
end
section
namespace PL
open PySem PySem.Spec PyProof.Rows L2
variable {K : PySem.W.Frag} {ad : Cl → Addr} {ct : CT}
variable {fr : Fr} {F F' H H' : Hp} {σ : L2.St} {ρ : List Sl} {W : WX}
/-! ### x in y -/
def dInB : D → D → Option Bool
  | .int i, e => (e.items.bind D.ints).map fun ns => ns.contains i
  | .str s, .str z => match s.cps.toList with | [c] => some (decide (c ∈ z.cps.toList)) | _ => none
  | .str s, e => (e.items.bind D.strs).map fun ys => ys.contains s
  | _, _ => none
def dIn (d e : D) : Option D := (dInB d e).map .bl
def dNotIn (d e : D) : Option D := (dInB d e).map fun b => .bl (!b)
def rSign (neg : Bool) : R2 := fun x y H Q => ∃ (c : Nat) (z : Str), x = .str ⟨#[c]⟩ ∧ y = .str z ∧ Q (.bl (if neg then !decide (c ∈ z.cps.toList) else decide (c ∈ z.cps.toList))) H
def rInB (K : PySem.W.Frag) (neg : Bool) : R2 := fun x y H Q => rIn K neg x y H Q ∨ rSign neg x y H Q
theorem op_inB {X : Cx} (eK : X.K = K) : OpR X (compareOp .In) (rInB K false) := by
  subst eK
  exact fun pins s σ H x y v u Q I rx ry h => h.elim (op_in_seq pins s σ H x y v u Q I rx ry) (op_in_sign pins s σ H x y v u Q I rx ry)
theorem inV_ints (i : Int) : ∀ ns : List Int, inV (.int i) (ns.map V.int) = ns.contains i
  | [] => rfl
  | n :: ns => by
    rw [List.contains_cons, ← inV_ints i ns]
    show (eqV (.int n) (.int i) || _) = _
    congr 1
    show decide (n = i) = _
    by_cases e : n = i
    · simp [e]
    · simp [e, Ne.symm e]
theorem inV_strs (s : Str) : ∀ ns : List Str, inV (.str s) (ns.map V.str) = ns.contains s
  | [] => rfl
  | n :: ns => by
    rw [List.contains_cons, ← inV_strs s ns]
    show (eqV (.str n) (.str s) || _) = _
    congr 1
    show decide (n = s) = _
    by_cases e : n = s
    · simp [e]
    · simp [e, Ne.symm e]
theorem in_cases {F H : Hp} {x y : V} {d e : D} {b : Bool} {neg : Bool} {Q : VK} (s : Same F H) (r1 : Rp K ct.ad F x d) (r2 : Rp K ct.ad F y e) (h : dInB d e = some b) (q : Q (.bl (if neg then !b else b)) H) : rInB K neg x y H Q := by
  have go : ∀ {xs : List D}, e.items = some xs → ∃ p vs, y = .ref p ∧ (SqL K H p vs ∨ SqT K H p vs) ∧ Rps K ct.ad F vs xs := fun {xs} z => r2.seq s z
  cases d with
  | int i =>
    cases r1
    obtain ⟨ns, e1, e2⟩ := map_some (show (e.items.bind D.ints).map (fun ns => ns.contains i) = some b from h)
    cases ei : e.items with
    | none => rw [ei] at e1; cases e1
    | some xs =>
      rw [ei] at e1
      obtain ⟨p, vs, rfl, hs, k⟩ := go ei
      have := D.ints_eq (show D.ints xs = some ns from e1)
      subst this
      have := k.ints
      subst this
      refine .inl ⟨p, _, rfl, hs, rfl, by simp [flatV], ?_⟩
      rw [inV_ints, e2]
      exact q
  | str t =>
    cases r1
    cases e with
    | str z =>
      cases r2
      have h : (match t.cps.toList with | [c] => some (decide (c ∈ z.cps.toList)) | _ => none) = some b := h
      split at h
      · rename_i c hc
        cases h
        refine .inr ⟨c, z, ?_, rfl, q⟩
        have : t.cps = #[c] := Array.toList_inj.mp hc
        cases t
        simp only at this
        subst this
        rfl
      · cases h
    | tup xs =>
      obtain ⟨ns, e1, e2⟩ := map_some (show ((some xs).bind D.strs).map (fun ys => ys.contains t) = some b from h)
      obtain ⟨p, vs, rfl, hs, k⟩ := go rfl
      have := D.strs_eq (show D.strs xs = some ns from e1)
      subst this
      have := k.strs
      subst this
      refine .inl ⟨p, _, rfl, hs, rfl, by simp [flatV], ?_⟩
      rw [inV_strs, e2]
      exact q
    | lst xs =>
      obtain ⟨ns, e1, e2⟩ := map_some (show ((some xs).bind D.strs).map (fun ys => ys.contains t) = some b from h)
      obtain ⟨p, vs, rfl, hs, k⟩ := go rfl
      have := D.strs_eq (show D.strs xs = some ns from e1)
      subst this
      have := k.strs
      subst this
      refine .inl ⟨p, _, rfl, hs, rfl, by simp [flatV], ?_⟩
      rw [inV_strs, e2]
      exact q
    | sq xs =>
      obtain ⟨ns, e1, e2⟩ := map_some (show ((some xs).bind D.strs).map (fun ys => ys.contains t) = some b from h)
      obtain ⟨p, vs, rfl, hs, k⟩ := go rfl
      have := D.strs_eq (show D.strs xs = some ns from e1)
      subst this
      have := k.strs
      subst this
      refine .inl ⟨p, _, rfl, hs, rfl, by simp [flatV], ?_⟩
      rw [inV_strs, e2]
      exact q
    | _ => cases h
  | _ => cases h
theorem o_in : O2 K ct.ad (rInB K false) dIn := by
  intro F H x y d e z Q s r1 r2 h q
  obtain ⟨b, e1, rfl⟩ := map_some h
  exact in_cases (ct := ct) s r1 r2 e1 (q _ (Rp.bl _))
end PL
namespace PL
open PySem PySem.Spec PyProof.Rows L2
/-- what the top asks of the law's def -/
def spLaw (K : PySem.W.Frag) : Sp := fun vs H Q _ => ∃ (a : Addr) (ns : List Int), vs = [.ref a] ∧ SqL K H a (ns.map V.int) ∧ ns.length ≤ 63 ∧ ∀ H', Q (.bl true) H'
theorem spLaw_of {K : PySem.W.Frag} {ad : Cl → Addr} {G : Fn} (h : ∀ ns : List Int, ns.length ≤ 63 → ∃ ρ, G [.dat (.sq (ns.map D.int))] = some (.ok (.d (.bl true)), ρ)) : ∀ vs H Q E, spLaw K vs H Q E → spP K ad 1 G vs H Q E := by
  rintro vs H Q E ⟨a, ns, rfl, hs, hl, q⟩
  obtain ⟨ρ, e⟩ := h ns hl
  have S : Rel K (cx ad) ⟨H, H, fun _ => none⟩ H H ([V.ref a].map some) [.dat (.sq (ns.map D.int))] := by
    refine ⟨rfl, Same.refl _, fun i s z => ?_, fun i j k c k' c' p z => ?_, Same.refl _, fun b _ z => z, fun i p z => by cases z⟩
    · cases i with
      | zero =>
        cases z
        exact ⟨_, rfl, _, rfl, .sq hs (Rps.ofInts ns)⟩
      | succ i => simp at z
    · cases i with
      | zero => cases z
      | succ i => simp at z
  refine ⟨rfl, _, H, _, S, fun _ _ => rfl, rfl, _, ρ, e, fun v F' H' s S' r => ?_⟩
  cases r
  exact q H'
end PL
end
section
namespace PL
open PySem PySem.Spec PyProof.Rows L2
variable {K : PySem.W.Frag} {ad : Cl → Addr} {ct : CT}
variable {fr : Fr} {F F' H H' : Hp} {σ : L2.St} {ρ : List Sl} {W : WX}
/-! ### a new cell handed straight to a def -/
/-- the frame that holds fast what stands at p -/
def Fr.hold (fr : Fr) (p : Addr) (o : HO) : Fr := { P := fun b => if b = p then some o else fr.P b, F0 := fun b => if b = p then none else fr.F0 b, pa := fr.pa }
theorem SlR.refr {fr fr' : Fr} {i : Nat} {o : Option V} {s : Sl} (h : SlR K ct fr F H i o s) (ep : fr'.pa = fr.pa) (eP : ∀ p, o = some (.ref p) → (∃ k c, s = .cel k c) → fr.P p = none → fr'.P p = none) : SlR K ct fr' F H i o s := by
  cases s with
  | un => exact h
  | dat d => exact h
  | cel k c =>
    obtain ⟨p, e, h1, h2, h3, h4, h5⟩ := h
    exact ⟨p, e, h1, eP p e ⟨k, c, rfl⟩ h2, by rw [ep]; exact h3, by rw [ep]; exact h4, h5⟩
  | exn c pl => exact h
theorem Rel.hold {p : Addr} {c : CC} {o : HO} (S : Rel K ct fr F H σ ρ) (f : Fresh K ct.ad fr F H σ ρ p c) (ho : H p = some o) : Rel K ct (fr.hold p o) F H σ ρ := by
  obtain ⟨f1, f2, f3, f4, f5⟩ := f
  refine ⟨S.len, S.fh, fun i s e => ?_, S.dis, fun b x e => ?_, fun b hb h0 => ?_, S.pcs⟩
  · obtain ⟨u, e1, r⟩ := S.slot i s e
    refine ⟨u, e1, SlR.refr r rfl fun q eq ⟨k, c', es⟩ hq => ?_⟩
    subst es
    have ne : q ≠ p := fun z => f5 i k c' e (by rw [e1, eq, z])
    show (if q = p then some o else fr.P q) = none
    rw [if_neg ne]; exact hq
  · have e : (if b = p then some o else fr.P b) = some x := e
    by_cases z : b = p
    · rw [if_pos z] at e; cases e; rw [z]; exact ho
    · rw [if_neg z] at e; exact S.keep b x e
  · by_cases z : b = p
    · rw [z]; exact f1
    · refine S.fro b (fun y => hb ?_) ?_
      · show (if b = p then some o else fr.P b) = none
        rw [if_neg z]; exact y
      · have h0 : (if b = p then none else fr.F0 b) = none := h0
        rw [if_neg z] at h0; exact h0
theorem Rel.unhold {p : Addr} {o : HO} (S : Rel K ct (fr.hold p o) F H σ ρ) (hp : fr.P p = none) : Rel K ct fr F H σ ρ := by
  refine ⟨S.len, S.fh, fun i s e => ?_, S.dis, fun b x e => ?_, fun b hb h0 => ?_, S.pcs⟩
  · obtain ⟨u, e1, r⟩ := S.slot i s e
    refine ⟨u, e1, SlR.refr r rfl fun q eq ⟨k, c', es⟩ hq => ?_⟩
    have hq : (if q = p then some o else fr.P q) = none := hq
    by_cases z : q = p
    · rw [if_pos z] at hq; cases hq
    · rw [if_neg z] at hq; exact hq
  · have z : b ≠ p := fun z => by rw [z, hp] at e; cases e
    refine S.keep b x ?_
    show (if b = p then some o else fr.P b) = some x
    rw [if_neg z]; exact e
  · have z : b ≠ p := fun z => hb (by rw [z]; exact hp)
    refine S.fro b (fun y => hb ?_) ?_
    · have y : (if b = p then some o else fr.P b) = none := y
      rw [if_neg z] at y; exact y
    · show (if b = p then none else fr.F0 b) = none
      rw [if_neg z]; exact h0
theorem Rel.heldF {p : Addr} {c : CC} {o : HO} {F0 H0 : Hp} {σ0 : L2.St} {ρ0 : List Sl} (S : Rel K ct (fr.hold p o) F H σ ρ) (f : Fresh K ct.ad fr F0 H0 σ0 ρ0 p c) (ho : H0 p = some o) (s : Same F0 F) : Fresh K ct.ad fr F H σ ρ p c := by
  obtain ⟨f1, f2, f3, f4, f5⟩ := f
  have at_p : (fr.hold p o).P p = some o := if_pos rfl
  refine ⟨S.fro p (by rw [at_p]; simp) (if_pos rfl), f2, f3, f4.keep s (by rw [ho]; exact S.keep p o at_p), fun i k c' e z => ?_⟩
  obtain ⟨u, e1, r⟩ := S.slot i _ e
  obtain ⟨q, eq, _, h2, _⟩ := r
  rw [e1, eq] at z
  injection z with z; injection z with z; injection z with z
  rw [z, at_p] at h2; cases h2
theorem Fresh.pop {p q : Addr} {c : CC} (h : Fresh K ct.ad fr F H (σ ++ [some (.ref q)]) ρ p c) : Fresh K ct.ad fr F H σ (ρ.take σ.length) p c := by
  obtain ⟨f1, f2, f3, f4, f5⟩ := h
  refine ⟨f1, f2, f3, f4, fun i k c' e z => ?_⟩
  rw [List.getElem?_take] at e
  split at e
  · rename_i l
    exact f5 i k c' e (by rw [List.getElem?_append_left l]; exact z)
  · cases e
/-- .. the call itself: the cell stands behind the slots while it runs -/
def callN (n : Nat) (G : Fn) (c : CC) (ar : List Ar) : Ev := fun ρ => match callG n G (.c ρ.length :: ar) (ρ ++ [.cel .own c]) with
  | some (r, ρ1) => some (r, ρ1.take ρ.length)
  | none => none
def evCallN (n : Nat) (G : Fn) (m : Ev) (as : List AE) (ds : List D := []) : Ev := bnd m fun r => match r with
  | .c c => bnd (evAs as) fun ar => callN n G c (ar ++ ds.map .d)
  | .d _ => fai
def evCallN0 (n : Nat) (G : Fn) (m : Ev) (as : List AE) (ds : List D := []) : Ev := bnd m fun r => match r with
  | .c c => bnd (evAs as) fun ar => noEr (callN n G c (ar ++ ds.map .d))
  | .d _ => fai
theorem Tat.callN {n : Nat} {G : Fn} {p : Addr} {c : CC} {vs : List V} {ar : List Ar} {Q : VK} {E : XK} (h : Tat K ct (RV K ct.ad) W fr F ρ (PL.callN n G c ar) σ Q) (S : Rel K ct fr F H σ ρ) (f : Fresh K ct.ad fr F H σ ρ p c) (r : RAs K ct.ad F σ vs ar) (hE : ∀ cls d H', W cls d σ H' → E cls d H') : spP K ct.ad n G (.ref p :: vs) H Q E := by
  have S1 := S.push f
  have l := S.len
  have np : fr.pa σ.length = none := by
    cases z : fr.pa σ.length with
    | none => rfl
    | some q =>
      obtain ⟨k1, c1, h1, h2⟩ := S.pcs _ q z
      have := (List.getElem?_eq_some_iff.mp h1).1
      omega
  have last : (σ ++ [some (V.ref p)])[ρ.length]? = some (some (V.ref p)) := by rw [← l]; simp
  refine Tat.call (W := fun cls d _ H' => W cls d σ H') (ar := .c ρ.length :: ar) (fr := fr) (F := F) (ρ := ρ ++ [.cel .own c]) (σ := σ ++ [some (.ref p)]) ?_ S1 (RAs.cons (show RA1 K ct.ad F (σ ++ [some (V.ref p)]) (.ref p) (.c ρ.length) from last) (RAs.push (o := some (V.ref p)) r)) hE
  obtain ⟨r0, ρ0, e, q⟩ := h
  unfold PL.callN at e
  cases ec : callG n G (.c ρ.length :: ar) (ρ ++ [.cel .own c]) with
  | none => rw [ec] at e; cases e
  | some y =>
    obtain ⟨ry, ρ1⟩ := y
    rw [ec] at e
    cases e
    refine ⟨r0, ρ1, ec, ?_⟩
    rw [← l] at q
    cases r0 with
    | er c' pl => exact fun d F' H' s' S' pr => q d F' H' s' (S'.pop np) pr
    | ok rv => exact fun v F' H' s' S' rr => q v F' H' s' (S'.pop np) (by
        cases rv with
        | d d => exact rr
        | c c' => obtain ⟨x, ex, fx⟩ := rr; exact ⟨x, ex, fx.pop⟩)
/-- the other arguments, while the cell is held fast -/
theorem Tat.held {β : Type} {R' : Rel3 β Rv} {p : Addr} {c : CC} {as : List AE} {k : List Ar → Ev} {Q : β → Hp → Prop} {Q1 : List V → Hp → Prop} (h : Tat K ct R' W fr F ρ (PL.bnd (evAs as) k) σ Q) (S : Rel K ct fr F H σ ρ) (f : Fresh K ct.ad fr F H σ ρ p c)
    (hq : ∀ F1 H1 ρ1 vs ar, Same F F1 → Rel K ct fr F1 H1 σ ρ1 → Fresh K ct.ad fr F1 H1 σ ρ1 p c → RAs K ct.ad F1 σ vs ar → Tat K ct R' W fr F1 ρ1 (k ar) σ Q → Q1 vs H1) : TAr K ct W (evAs as) σ H Q1 := by
  obtain ⟨o, ho⟩ := f.2.2.2.1.at
  have hp := f.2.1
  refine ⟨fr.hold p o, F, ρ, S.hold f ho, ?_⟩
  obtain ⟨r, ρ', e, q⟩ := h
  unfold PL.bnd at e
  cases em : evAs as ρ with
  | none => rw [em] at e; cases e
  | some x =>
    obtain ⟨r1, ρ1⟩ := x
    rw [em] at e
    refine ⟨r1, ρ1, em, ?_⟩
    cases r1 with
    | er c' pl =>
      cases e
      exact fun d F1 H1 s1 S1 pr => q d F1 H1 s1 (S1.unhold hp) pr
    | ok ar =>
      intro vs F1 H1 s1 S1 rr
      refine hq F1 H1 ρ1 vs ar s1 (S1.unhold hp) (S1.heldF f ho s1) rr ⟨r, ρ', e, ?_⟩
      cases r with
      | ok a => exact fun v F2 H2 s2 S2 rr => q v F2 H2 (s1.trans s2) S2 rr
      | er c' pl => exact fun d F2 H2 s2 S2 rr => q d F2 H2 (s1.trans s2) S2 rr
section
variable {X : Cx} {CX : CXT} {k : Nat} {f : Addr} {fd : FuncData} {ps : List Str} {x : Str} {p pos : Pos} {e : Expr} {es : List Expr} {n : Nat} {G : Fn} {m : Ev} {as : List AE} {dvs : List V} {dds : List D} {ds : List Value}
end
end PL
end
section
namespace PL
open PySem PySem.Spec PyProof.Rows L2
variable {K : PySem.W.Frag} {ad : Cl → Addr} {ct : CT}
variable {fr : Fr} {F F' H H' : Hp} {σ : L2.St} {ρ : List Sl} {W : WX}
/-! ### methods of a class -/
/-- C.m is the plain def at g -/
structure SMet (K : PySem.W.Frag) (C : Addr) (mc : Value) (m : Str) (p g : Addr) : Prop where
  fnd : PySem.W.findCls K (.ref C) mc m = some (.get (.builtin "staticmethod.__get__") (.ref p) .none (.ref C))
  wraps : ∃ rest, PySem.W.recIn K p "staticmethod" = some (.ref g :: rest)
def evCallC (n : Nat) (G : Fn) (c : Cl) (as : List AE) : Ev := bnd (evAs as) fun ar => noEr (callG n G (.d (.cl c) :: ar))
section
variable {X : Cx} {CX : CXT} {k : Nat} {f : Addr} {fd : FuncData} {ps : List Str} {x m : Str} {p pos apos : Pos} {e o : Expr} {es : List Expr} {n : Nat} {G : Fn} {as : List AE} {dvs : List V} {dds : List D} {ds : List Value} {q : Addr} {mc : Value} {sp : Sp}
theorem sm_here {pins : List (Addr × Obj)} {s : Shared} {A : Around} {C : Addr} {E : Value → Shared → Prop} {pl : Sem Bool} {Q : Value × List Value → Shared → Prop} (I : Inv X pins σ H s) (r : ClX.CRead X.K C mc) (c : SMet X.K C mc m q f)
    (h : ∀ s1, Inv X pins σ H s1 → Q (.ref f, []) s1) : wpAny (model X.prog X.w) A (getMethod (.ref C) m pl) Q E s := by
  obtain ⟨rest, hp⟩ := c.wraps
  refine PySem.W.method_cls I.kIn r.ga (PySem.W.cls_bind I.kIn r.rd c.fnd ?_)
  exact wpAny_call (PySem.W.sm_get (s := { s with toks := s.toks + 1 }) I.kIn hp (PySem.W.handed_on rfl (h _ (I.tok _))))
/-- what raises goes on by the slots as they stand -/
def tSM (C : Addr) (sp : Sp) (dvs : List V) (E : L2.St → XK) (ta : TE) (t : TA) : TE := fun σ H Q => ta σ H fun y H1 => y = .ref C ∧ t σ H1 fun vs H2 => sp (vs ++ dvs) H2 Q (E σ)
theorem pe_sm {C : Addr} {pl : Sem Bool} {E : L2.St → XK} {ta : TE} {t : TA} (he : PE X o ta) (r : ClX.CRead X.K C mc) (c : SMet X.K C mc m q f) (hk : PySem.W.keepIn X.K (.ref f) = true) (Fn : FnOk X.prog X.w X.K X.mg X.base CX k f fd ps sp) (hr : Room k X.A) (hb : Binds X.K fd ps []) (hx : ∀ σ, PassesAt CX X σ (E σ)) (ha : PA X (e :: es) t)
    (hst : starEach (e :: es) X.env = (false, eval e X.env) :: starEach es X.env := by rfl) (hpl : (backTo pos (starEach es X.env)).any (·.1) = false := by rfl)
    (ht : CallsM X o m apos pos pl (e :: es) := by rfl) : PE X (.Call (.Attribute o m apos) (e :: es) [] pos) (tSM C sp [] E ta t) where
  run pn s σ G0 Q I h := by
    refine PySem.W.methodCall_KW (pl := pl) (thn (he.run pn s σ G0 _ I h) ?_) ht
    rintro u s1 ⟨y, G1, I1, ry, ey, z⟩
    subst ey
    obtain rfl : u = Value.ref C := ry
    refine sm_here I1 r c fun s2 I2 => ?_
    refine PySem.W.callWith_K (h₀ := X.base) (first := []) I2.ok.mod.kin hk (thn (ha.run pos pn s2 σ G1 _ I2 z) ?_) hst hpl
    rintro us s3 ⟨vs, G2, I3, rv, z3⟩
    refine ⟨I3.kIn, run_fnS Fn hr hb (hx σ) I3 rv ?_⟩
    rw [List.append_nil] at z3
    exact z3
section
theorem pp_smS (c : Cl) (he : PE X o (tC (.ref (ct.ad c)))) (r : ClX.CRead X.K (ct.ad c) mc) (sm : SMet X.K (ct.ad c) mc m q f) (hk : PySem.W.keepIn X.K (.ref f) = true) (Fn : FnOk X.prog X.w X.K X.mg X.base (L2.CX X.prog X.w) k f fd ps (spP K ct.ad n G)) (tk : Takes X W) (hr : Room k X.A) (hb : Binds X.K fd ps []) (ha : PA X (e :: es) (TAr K ct W (evAs as)))
    (hst : starEach (e :: es) X.env = (false, eval e X.env) :: starEach es X.env := by rfl) (hpl : (backTo pos (starEach es X.env)).any (·.1) = false := by rfl)
    {pl : Sem Bool} (ht : CallsM X o m apos pos pl (e :: es) := by rfl) : PE X (.Call (.Attribute o m apos) (e :: es) [] pos) (TP K ct W (evCall n G as)) := (pe_sm he r sm hk Fn hr hb (fun σ => passAt tk σ) ha hst hpl ht).imp fun σ H Q h => by
  obtain ⟨fr, F, ρ, S, h⟩ := h
  refine ⟨rfl, ?_⟩
  refine Tat.bnd h S fun F1 H1 ρ1 vs ar s1 S1 r1 h => ?_
  rw [List.append_nil]
  rw [List.map_nil, List.append_nil] at h
  exact Tat.call h S1 r1 fun _ _ _ z => z
end
/-- cls(..): the class that slot i holds -/
def evMkL (i n : Nat) (G : Fn) (c : Cl) (as : List AE) : Ev := fun ρ => match ρ[i]? with
  | some (.dat (.cl c')) => if c' = c then evMk n G c as [] ρ else none
  | _ => none
end
end PL
end
section
namespace PL
open PySem PySem.Spec PyProof.Rows L2
variable {K : PySem.W.Frag} {ad : Cl → Addr} {ct : CT}
variable {fr : Fr} {F F' H H' : Hp} {σ : L2.St} {ρ : List Sl} {W : WX}
/-! ### max and min with the default None -/
def bestN (f : Int → Int → Int) : List Int → V
  | [] => .non
  | n :: ns => .int (ns.foldl f n)
def wBestN (f : Int → Int → Int) (K : PySem.W.Frag) : List V → List V → Hp → VK → Prop := fun vs zs H Q => ∃ (a : Addr) (ns : List Int), vs = [.ref a] ∧ zs = [.non] ∧ SqL K H a (ns.map V.int) ∧ Q (bestN f ns) H
section
variable {X : Cx}
end
def bestD (f : Int → Int → Int) : List Int → D
  | [] => .non
  | n :: ns => .int (ns.foldl f n)
def gBestN (f : Int → Int → Int) : List D → Option D | [d] => (lints d).map (bestD f) | _ => none
def evBestN (f : Int → Int → Int) (es : List DE) : Ev := bnd (evDs es) fun ds => opt ((gBestN f ds).map Rv.d)
/-! ### x in xs, both data -/
def rInD (K : PySem.W.Frag) (neg : Bool) : R2 := fun x y H Q => ∃ (d : PyData) (xs : List PyData), Dp K H x d ∧ (Dp K H y (.list xs) ∨ Dp K H y (.tuple xs)) ∧ PyData.plainAll xs = true ∧ d.plain = true ∧ d.depth ≤ 60 ∧ Q (.bl (if neg then !(xs.any fun z => PyData.eqv z d) else xs.any fun z => PyData.eqv z d)) H
def D.its : PyData → Option (List PyData) | .list xs => some xs | .tuple xs => some xs | _ => none
def dInDB (d e : D) : Option Bool := match d.py, e.py.bind D.its with
  | some p, some xs => if PyData.plainAll xs && p.plain && decide (p.depth ≤ 60) then some (xs.any fun z => PyData.eqv z p) else none
  | _, _ => none
def dInD (d e : D) : Option D := (dInDB d e).map .bl
def dNotInD (d e : D) : Option D := (dInDB d e).map fun b => .bl (!b)
/-! ### text * n -/
def repS (x : Str) (n : Nat) : Str := ⟨(List.replicate n x.cps).foldl (· ++ ·) #[]⟩
def rMulS : R2 := fun x y H Q => ∃ (t : Str) (n : Int), x = .str t ∧ y = .int n ∧ -(2 ^ 63) ≤ n ∧ n < 2 ^ 63 ∧ t.length * n.toNat ≤ 16777216 ∧ Q (.str (repS t n.toNat)) H
def dMulS : D → D → Option D
  | .str t, .int n => if -(2 ^ 63) ≤ n ∧ n < 2 ^ 63 ∧ t.length * n.toNat ≤ 16777216 then some (.str (repS t n.toNat)) else none
  | _, _ => none
end PL
end
section
namespace PL
open PySem PySem.Spec PyProof.Rows L2
/-! ### several clauses, each with a name -/
abbrev Cla := Value × Nat × (Addr → Value → Option Addr → TS)
/-- behind a suite its name is gone -/
def Ends.gone (D : Ends) (i : Nat) : Ends := { nx := fun z G => D.nx (z.set i none) G, rt := D.rt, bk := fun z G => D.bk (z.set i none) G, ct := fun z G => D.ct (z.set i none) G }
/-- what the clauses want of an exception, in their order -/
def wCl (K : PySem.W.Frag) (W0 : WX) (D : Ends) : List Cla → WX
  | [] => W0
  | cl :: r => fun C d z G => ∃ t, PySem.W.exmOne K C cl.1 = some t ∧
    if t = true then ∀ q, G q = none → cl.2.2 q C d (Ends.gone D cl.2.1) (z.set cl.2.1 (some (.ref q))) G else wCl K W0 D r C d z G
inductive Clauses (X : Cx) : List ExceptHandler → List Cla → Prop
  | nil : Clauses X [] []
  | cons {x n : Str} {C : Value} {i : Nat} {ts : Addr → Value → Option Addr → TS} {b0 : Stmt} {bs : List Stmt} {p1 p2 : Pos} {hds : List ExceptHandler} {l : List Cla} (hN : X.N[i]? = some n) (hl : X.env.kindOf n = some .local) (hC : Names X x C)
      (run : ∀ (q : Addr) (o : Obj) (Z : Value) (d : Option Addr) (pn : List (Addr × Obj)), Zc Z d o → (∃ ws, o.data = .fields ws) → PSs (X.suite q ((q, o) :: pn)) (b0 :: bs) (ts q Z d)) (r : Clauses X hds l) :
      Clauses X (.ExceptHandler (some (.Name x p1)) (some n) (b0 :: bs) p2 :: hds) ((C, i, ts) :: l)
section
variable {X : Cx} {body : List Stmt} {hds : List ExceptHandler} {h0 : ExceptHandler} {l : List Cla} {pos : Pos} {tb : WX → TS} {W0 : WX}
end
variable {K : PySem.W.Frag} {ct : CT} {fr : Fr} {F H : Hp} {σ : L2.St} {ρ : List Sl} {W : WX}
abbrev Clp := Nat × List (Cl × Bool) × M Fl
/-- the first clause that takes it -/
def pick : List Clp → Cl → Option D → M Fl
  | [], c, pl => fun ρ => some (.er c pl, ρ)
  | x :: r, c, pl => fun ρ => match x.2.1.lookup c with
    | some true => suiteA x.1 c pl x.2.2 ρ
    | some false => pick r c pl ρ
    | none => none
def evTryM (body : M Fl) (cs : List Clp) : M Fl := fun ρ => match body ρ with
  | some (.er c pl, ρ1) => pick cs c pl ρ1
  | r => r
theorem Sat.suiteA {i : Nat} {c : Cl} {pl : Option D} {d : Option Addr} {s : M Fl} {En : Ends} (h : Sat K ct W En fr F ρ (PL.suiteA i c pl s)) (S : Rel K ct fr F H σ ρ) (pr : PlR K ct.ad F c pl d) (a : Addr) : TSt K (ct.su a (.ref (ct.ad c)) d) WF s (Ends.gone En i) (σ.set i (some (.ref a))) H := by
  obtain ⟨r, ρ', e, q⟩ := h
  unfold PL.suiteA at e
  split at e
  · rename_i n1
    split at e
    · cases e
    · rename_i sl hn hsl
      have np := S.npar hsl hn
      split at e
      · rename_i f ρs es
        split at e
        · rename_i n2
          cases e
          have S3 : Rel K (ct.su a (.ref (ct.ad c)) d) fr F H σ ρ := S.ek rfl n1
          refine ⟨fr, F, _, S3.setX rfl pr np, .ok f, _, es, ?_⟩
          cases f with
          | nx => exact fun σ2 F2 H2 s2 S2 => q _ F2 H2 s2 ((S2.setU np).ek rfl n2)
          | bk => exact fun σ2 F2 H2 s2 S2 => q _ F2 H2 s2 ((S2.setU np).ek rfl n2)
          | ct => exact fun σ2 F2 H2 s2 S2 => q _ F2 H2 s2 ((S2.setU np).ek rfl n2)
          | rt x =>
            intro σ2 v F2 H2 s2 S2 rv
            refine q σ2 v F2 H2 s2 ((S2.unR np).ek rfl n2) ?_
            cases x with
            | d d => exact rv
            | c c =>
              obtain ⟨p, ev, f1, f2, f3, f4, f5⟩ := rv
              refine ⟨p, ev, f1, f2, f3, f4, fun j k c' z1 z2 => ?_⟩
              by_cases w : i = j
              · subst w
                rw [List.getElem?_set] at z1
                split at z1
                · split at z1 <;> cases z1
                · rename_i w; exact absurd rfl w
              · rw [List.getElem?_set_ne w] at z1; exact f5 j k c' z1 z2
        · cases e
      · cases e
    · cases e
  · cases e
variable (K ct) in
inductive PRel : List Clp → List Cla → Prop
  | nil : PRel [] []
  | cons {i : Nat} {cv : Value} {cat : List (Cl × Bool)} {s : M Fl} {cs : List Clp} {l : List Cla} (C : CatOk K ct.ad cv cat) (r : PRel cs l) : PRel ((i, cat, s) :: cs) ((cv, i, fun a Z d => TSt K (ct.su a Z d) WF s) :: l)
section
variable {X : Cx} {body : List Stmt} {hds : List ExceptHandler} {h0 : ExceptHandler} {pos : Pos} {mb : M Fl} {cs : List Clp}
variable (K ct) in
/-- the clauses of a text, and what they are -/
structure ClsOk (X : Cx) (hds : List ExceptHandler) (cs : List Clp) : Prop where
  both : ∃ l, Clauses X hds l ∧ PRel K ct cs l
theorem ClsOk.nil : ClsOk K ct X [] [] := ⟨[], .nil, .nil⟩
theorem ClsOk.cons {x n : Str} {cv : Value} {i : Nat} {b0 : Stmt} {bs : List Stmt} {p1 p2 : Pos} {cat : List (Cl × Bool)} {s : M Fl} (hN : X.N[i]? = some n) (hl : X.env.kindOf n = some .local) (hC : Names X x cv) (C : CatOk K ct.ad cv cat)
    (run : ∀ (q : Addr) (o : Obj) (Z : Value) (d : Option Addr) (pn : List (Addr × Obj)), Zc Z d o → (∃ ws, o.data = .fields ws) → PSs (X.suite q ((q, o) :: pn)) (b0 :: bs) (TSt K (ct.su q Z d) WF s)) (r : ClsOk K ct X hds cs) :
    ClsOk K ct X (.ExceptHandler (some (.Name x p1)) (some n) (b0 :: bs) p2 :: hds) ((i, cat, s) :: cs) := by
  obtain ⟨l, h1, h2⟩ := r.both
  exact ⟨_, .cons hN hl hC run h1, .cons C h2⟩
end
end PL
end
section
namespace PL
open PySem PySem.Spec PyProof.Rows L2
variable {K : PySem.W.Frag} {ct : CT} {fr : Fr} {F H : Hp} {σ : L2.St} {ρ : List Sl} {W : WX}
/-! ### [e for x in xs for y in ys] -/
def lcGo2 (vs : List Nat) (tg : Tg) (c : M Bool) (it : M (List D)) (vs1 : List Nat) (tg1 : Tg) (c1 : M Bool) (e : Ev) : List D → List D → M (List D)
  | [], acc => pur acc
  | x :: xs, acc => fun ρ => match asgT tg x ρ with
    | some (.ok .nx, ρ1) => bnd (noEr c) (fun b => if b then bnd (noEr it) (fun ys => bnd (fun ρ => lcGo vs1 tg1 c1 e ys acc (wipeR ρ vs1)) fun acc' => fun ρ => lcGo2 vs tg c it vs1 tg1 c1 e xs acc' (wipeR ρ vs)) else fun ρ => lcGo2 vs tg c it vs1 tg1 c1 e xs acc (wipeR ρ vs)) ρ1
    | _ => none
def evLc2 (vs : List Nat) (it : M (List D)) (tg : Tg) (c : M Bool) (it1 : M (List D)) (vs1 : List Nat) (tg1 : Tg) (c1 : M Bool) (e : Ev) : Ev := bnd it fun xs => lcRun vs (lcGo2 vs tg c it1 vs1 tg1 c1 e) xs
section
variable {X : Cx}
end
end PL
end
section
namespace PL
open PySem PySem.Spec PyProof.Rows L2
variable {K : PySem.W.Frag} {ad : Cl → Addr} {ct : CT} {fr : Fr} {F H : Hp} {σ : L2.St} {ρ : List Sl} {W : WX}
/-! ### defs with a star parameter -/
variable (K ad) in
/-- n values, the others in a new tuple -/
def spV (n : Nat) (G : Fn) : Sp := fun vs H Q E => ∃ ws rest, vs = ws ++ rest ∧ ws.length = n ∧ rest.length ≤ sizeLine ∧ ∀ p, H p = none → spP K ad (n + 1) G (ws ++ [V.ref p]) (upd H p (.tup rest)) Q E
/-- how such a def binds -/
def BindsV (x qual : Str) (st : Stmt) (ps : List Str) (pv : Str) : Prop := ∀ (kV doc pm : Value) (an : Option Addr) (cdv ctv : Value) (us rest : List Value), us.length = ps.length →
  bindArgs (PySem.W.fnOf x qual (defArgs st) (defBody st) (defScope st) .none kV doc pm an cdv ctv) ⟨us ++ rest, []⟩ = (newTuple rest >>= fun t => pure (ps.zip us ++ [(pv, t)]))
def Ar.data : Ar → Option D | .d z => some z | .c _ => none
def datas : List Ar → Option (List D)
  | [] => some []
  | a :: as => match a.data, datas as with | some d, some ds => some (d :: ds) | _, _ => none
theorem RAs.datas {F : Hp} {σ : L2.St} : ∀ {vs : List V} {as : List Ar} {ds : List D}, RAs K ct.ad F σ vs as → PL.datas as = some ds → Rps K ct.ad F vs ds
  | _, [], _, .nil, h => by cases h; exact .nil
  | _, a :: as, ds, .cons h r, e => by
    unfold PL.datas at e
    cases ea : a.data with
    | none => rw [ea] at e; cases e
    | some d =>
      cases eb : PL.datas as with
      | none => rw [ea, eb] at e; cases e
      | some ds' =>
        rw [ea, eb] at e
        cases e
        cases a with
        | d d' => cases ea; exact .cons h (RAs.datas r eb)
        | c j => cases ea
theorem Rps.takeDrop {F : Hp} : ∀ {n : Nat} {vs : List V} {ds : List D}, Rps K ct.ad F vs ds → Rps K ct.ad F (vs.take n) (ds.take n) ∧ Rps K ct.ad F (vs.drop n) (ds.drop n)
  | 0, _, _, h => ⟨.nil, h⟩
  | n + 1, _, _, .nil => ⟨.nil, .nil⟩
  | n + 1, _, _, .cons h r => let ⟨a, b⟩ := Rps.takeDrop (n := n) r; ⟨.cons h a, b⟩
/-- what the call comes to -/
def callV (n : Nat) (G : Fn) (ds : List D) : Ev := if n ≤ ds.length ∧ ds.length ≤ 1000000 then callG (n + 1) G ((ds.take n).map .d ++ [.d (.tup (ds.drop n))]) else fai
theorem RAs.ofRps {F : Hp} {σ : L2.St} : ∀ {vs : List V} {ds : List D}, Rps K ct.ad F vs ds → RAs K ct.ad F σ vs (ds.map .d)
  | _, _, .nil => .nil
  | _, _, .cons h r => .cons h (RAs.ofRps r)
theorem RAs.app {F : Hp} {σ : L2.St} : ∀ {vs ws : List V} {as bs : List Ar}, RAs K ct.ad F σ vs as → RAs K ct.ad F σ ws bs → RAs K ct.ad F σ (vs ++ ws) (as ++ bs)
  | _, _, _, _, .nil, h => h
  | _, _, _, _, .cons h r, k => .cons h (RAs.app r k)
theorem Tat.callV {n : Nat} {G : Fn} {vs : List V} {ds : List D} {Q : VK} {E : XK} (h : Tat K ct (RV K ct.ad) W fr F ρ (PL.callV n G ds) σ Q) (S : Rel K ct fr F H σ ρ) (r : Rps K ct.ad F vs ds) (hE : ∀ cls d H', W cls d σ H' → E cls d H') : spV K ct.ad n G vs H Q E := by
  unfold PL.callV at h
  by_cases c : n ≤ ds.length ∧ ds.length ≤ 1000000
  · rw [if_pos c] at h
    have l := Rps.len r
    refine ⟨vs.take n, vs.drop n, (List.take_append_drop n vs).symm, by rw [List.length_take]; omega, by rw [List.length_drop]; show _ ≤ 2 ^ 24; omega, fun p hp => ?_⟩
    have up := same_up (S.nn hp) (o := .tup (vs.drop n))
    obtain ⟨ra, rb⟩ := r.takeDrop (n := n)
    refine Tat.call (ar := (ds.take n).map .d ++ [.d (.tup (ds.drop n))]) (F := upd F p (.tup (vs.drop n))) ?_ (S.newD hp) ?_ hE
    · obtain ⟨r0, ρ0, e, q⟩ := h
      refine ⟨r0, ρ0, e, ?_⟩
      cases r0 with
      | ok a => exact fun v F' H' s' S' rr => q v F' H' (up.trans s') S' rr
      | er c pl => exact fun d F' H' s' S' rr => q d F' H' (up.trans s') S' rr
    · exact RAs.app (RAs.ofRps (ra.mono up)) (.cons (show RA1 K ct.ad _ σ (V.ref p) (.d (.tup (ds.drop n))) from Rp.tup (SqT.of upd_same) (rb.mono up)) .nil)
  · rw [if_neg c] at h
    obtain ⟨_, _, e, _⟩ := h; cases e
/-! is, is not between truth values -/
def dIsB : D → D → Option D | .bl a, .bl true => some (.bl a) | .bl a, .bl false => some (.bl (!a)) | _, _ => none
def dNotB : D → D → Option D | .bl a, .bl true => some (.bl (!a)) | .bl a, .bl false => some (.bl a) | _, _ => none
def rIsB : R2 := fun x y H Q => ∃ a b, x = .bl a ∧ y = .bl b ∧ Q (.bl (decide (a = b))) H
def rNotB : R2 := fun x y H Q => ∃ a b, x = .bl a ∧ y = .bl b ∧ Q (.bl (!decide (a = b))) H
def evCallV (n : Nat) (G : Fn) (as : List AE) : Ev := bnd (evAs as) fun ar => bnd (opt (datas ar)) fun ds => callV n G ds
def evCallV0 (n : Nat) (G : Fn) (as : List AE) : Ev := bnd (evAs as) fun ar => bnd (opt (datas ar)) fun ds => noEr (callV n G ds)
/-- f(*xs) -/
def evCallVS (n : Nat) (G : Fn) (m : Ev) : Ev := bnd (dat m) fun d => bnd (opt d.items) fun ds => callV n G ds
section
variable {X : Cx} {CX : CXT} {k : Nat} {f : Addr} {x : Str} {p pos sp_ : Pos} {e : Expr} {es : List Expr} {n : Nat} {G : Fn} {as : List AE} {m : Ev} {sp : Sp} {E : L2.St → XK} {t : TA} {te : TE}
end
end PL
end
section
/-! enumerate over a tuple -/
namespace OW
open PySem PySem.Spec PyProof.Rows L2
/-- the tuple at a, each item in a new pair with its place -/
def ItE (K : PySem.W.Frag) (a : Addr) : It :=
  ⟨fun i H => ∃ (xs : List V) (x : V), SqT K H a xs ∧ xs[i]? = some x, fun i H v H' => ∃ T x, v = .ref T ∧ H T = none ∧ H' = upd H T (.tup [.int (i : Nat), x]) ∧ ∀ xs, SqT K H a xs → xs[i]? = some x, fun i H => ∃ xs : List V, SqT K H a xs ∧ xs.length ≤ i⟩
def iEnumT (K : PySem.W.Frag) (ta : TA) : TI := fun σ H R => ta σ H fun vs H1 => ∃ a xs, vs = [.ref a] ∧ SqT K H1 a xs ∧ R (ItE K a) H1
/-! the sum of a tuple of ints -/
def rSumT (K : PySem.W.Frag) : List V → Hp → VK → Prop := fun vs H Q => ∃ (a : Addr) (ns : List Int), vs = [V.ref a] ∧ SqT K H a (ns.map V.int) ∧ Q (.int ns.sum) H
end OW
namespace PL
open PySem PySem.Spec PyProof.Rows L2
variable {K : PySem.W.Frag} {ct : CT} {W : WX} {F : Hp} {X : Cx}
/-- each item with its place -/
def enumD (xs : List D) : List D := xs.zipIdx.map fun p => .tup [.int (p.2 : Int), p.1]
def itET (e : Ev) : M (List D) := bnd (dat e) fun d => match d with | .tup xs => pur (enumD xs) | _ => fai
def itEL (e : Ev) : M (List D) := bnd (dat e) fun d => match d with | .lst xs => pur (enumD xs) | .sq xs => pur (enumD xs) | _ => fai
def tints (d : D) : Option (List Int) := d.titems.bind D.ints
def gSumT : List D → Option D | [d] => (tints d).map fun ns => .int ns.sum | _ => none
/-! how often a text lies in another -/
def evCnt (o e : Ev) : Ev := bnd (dat o) fun x => match x with
  | .str a => bnd (dat e) fun y => match y with
    | .str b => pur (.d (.int (Txt.count a b)))
    | _ => fai
  | _ => fai
/-! zip of two lists, of two tuples -/
def zipD (xs ys : List D) : List D := (xs.zip ys).map fun p => .tup [p.1, p.2]
def itZ (a b : Ev) : M (List D) := bnd (dat a) fun x => bnd (dat b) fun y => match x, y with
  | .lst xs, .lst ys => pur (zipD xs ys)
  | .tup xs, .tup ys => pur (zipD xs ys)
  | _, _ => fai
/-! range with a step -/
def rng3D (lo c : Int) (n : Nat) : List D := (List.range n).map fun (i : Nat) => .int (lo + i * c)
/-- what a range may be -/
def stepOk (i j c : Int) : Prop := c ≠ 0 ∧ c.natAbs < 1073741824 ∧ Builtin.Range.small i j c = true ∧ 0 ≤ Builtin.Range.rangeSize i j c
instance {i j c : Int} : Decidable (stepOk i j c) := by unfold stepOk; exact inferInstance
def itR3 (a b c : Ev) : M (List D) := bnd (dat a) fun x => bnd (dat b) fun y => bnd (dat c) fun z => match x, y, z with
  | .int i, .int j, .int k => if stepOk i j k then pur (rng3D i k (Builtin.Range.rangeSize i j k).toNat) else fai
  | _, _, _ => fai
end PL
end
section
namespace PL
open PySem PySem.Spec PyProof.Rows L2
/-! ### a comprehension that goes into a name which another comprehension reads: no exchange of stores -/
/-! ### t[::2], t[1::2], t[::-1] of a tuple -/
def evs {α : Type} : List α → List α | [] => [] | [a] => [a] | a :: _ :: r => a :: evs r
def ods {α : Type} : List α → List α | [] => [] | [_] => [] | _ :: b :: r => b :: ods r
theorem evs_len {α : Type} : ∀ xs : List α, (evs xs).length = (xs.length + 1) / 2
  | [] => by simp [evs]
  | [_] => by simp [evs]
  | _ :: _ :: r => by rw [evs, List.length_cons, evs_len r, List.length_cons, List.length_cons]; omega
theorem ods_len {α : Type} : ∀ xs : List α, (ods xs).length = xs.length / 2
  | [] => by simp [ods]
  | [_] => by simp [ods]
  | _ :: _ :: r => by rw [ods, List.length_cons, ods_len r, List.length_cons, List.length_cons]; omega
theorem evs_get {α : Type} : ∀ (xs : List α) (k : Nat), (evs xs)[k]? = xs[2 * k]?
  | [], k => by simp [evs]
  | [a], 0 => rfl
  | [a], k + 1 => by rw [evs, List.getElem?_cons_succ, List.getElem?_nil, List.getElem?_eq_none (by simp; omega)]
  | a :: b :: r, 0 => rfl
  | a :: b :: r, k + 1 => by rw [evs, List.getElem?_cons_succ, evs_get r k, show 2 * (k + 1) = 2 * k + 1 + 1 by omega, List.getElem?_cons_succ, List.getElem?_cons_succ]
theorem ods_get {α : Type} : ∀ (xs : List α) (k : Nat), (ods xs)[k]? = xs[2 * k + 1]?
  | [], k => by simp [ods]
  | [a], k => by rw [ods, List.getElem?_nil, List.getElem?_eq_none (by simp)]
  | a :: b :: r, 0 => rfl
  | a :: b :: r, k + 1 => by rw [ods, List.getElem?_cons_succ, ods_get r k, show 2 * (k + 1) + 1 = 2 * k + 1 + 1 + 1 by omega, List.getElem?_cons_succ, List.getElem?_cons_succ]
theorem fm_get {α : Type} {xs ys : List α} {f : Nat → Nat} (h : ∀ k, k < ys.length → xs[f k]? = ys[k]?) : (List.range ys.length).filterMap (fun k => xs[f k]?) = ys := by
  have go : ∀ n, n ≤ ys.length → (List.range n).filterMap (fun k => xs[f k]?) = ys.take n := by
    intro n
    induction n with
    | zero => intro _; rfl
    | succ n ih =>
      intro hn
      rw [List.range_succ, List.filterMap_append, ih (by omega), List.take_add_one, List.filterMap_cons, List.filterMap_nil, h n (by omega)]
      cases ys[n]? <;> rfl
  rw [go _ (Nat.le_refl _), List.take_length]
/-- which slice with a step -/
inductive StK | ev | od | rv
def StK.lo : StK → Option Int | .od => some 1 | _ => none
def StK.st : StK → Int | .rv => -1 | _ => 2
def StK.ap {α : Type} (k : StK) (xs : List α) : List α := match k with | .ev => evs xs | .od => ods xs | .rv => xs.reverse
theorem StK.len {α : Type} (k : StK) (xs : List α) : (k.ap xs).length ≤ xs.length := by
  cases k with
  | ev => show (evs xs).length ≤ _; rw [evs_len]; omega
  | od => show (ods xs).length ≤ _; rw [ods_len]; omega
  | rv => show xs.reverse.length ≤ _; rw [List.length_reverse]; omega
theorem StK.pick {α : Type} (k : StK) (xs : List α) :
    (List.range (Builtin.Slice.slicePlaces (Builtin.Slice.sliceAdjust k.lo none k.st xs.length).1 (Builtin.Slice.sliceAdjust k.lo none k.st xs.length).2 k.st)).filterMap (fun (m : Nat) => xs[((Builtin.Slice.sliceAdjust k.lo none k.st xs.length).1 + (m : Int) * k.st).toNat]?) = k.ap xs := by
  have key : ∀ (a : Int) (s : Int) (n : Nat) (ys : List α), n = ys.length → (∀ m, m < ys.length → xs[(a + (m : Int) * s).toNat]? = ys[m]?) → (List.range n).filterMap (fun (m : Nat) => xs[(a + (m : Int) * s).toNat]?) = ys := by
    intro a s n ys e h
    subst e
    exact fm_get (f := fun m => (a + (m : Int) * s).toNat) h
  cases k with
  | ev =>
    refine key _ _ _ _ ?_ fun m hm => ?_
    · show Builtin.Slice.slicePlaces (Builtin.Slice.sliceAdjust none none 2 (xs.length : Int)).1 (Builtin.Slice.sliceAdjust none none 2 (xs.length : Int)).2 2 = (evs xs).length
      rw [evs_len]
      unfold Builtin.Slice.sliceAdjust Builtin.Slice.slicePlaces
      simp
      split <;> omega
    · show xs[((Builtin.Slice.sliceAdjust none none 2 (xs.length : Int)).1 + (m : Int) * 2).toNat]? = (evs xs)[m]?
      rw [evs_get]
      congr 1
      (unfold Builtin.Slice.sliceAdjust; simp; omega)
  | od =>
    refine key _ _ _ _ ?_ fun m hm => ?_
    · show Builtin.Slice.slicePlaces (Builtin.Slice.sliceAdjust (some 1) none 2 (xs.length : Int)).1 (Builtin.Slice.sliceAdjust (some 1) none 2 (xs.length : Int)).2 2 = (ods xs).length
      rw [ods_len]
      unfold Builtin.Slice.sliceAdjust Builtin.Slice.slicePlaces
      simp
      split <;> omega
    · show xs[((Builtin.Slice.sliceAdjust (some 1) none 2 (xs.length : Int)).1 + (m : Int) * 2).toNat]? = (ods xs)[m]?
      have hm : m < (ods xs).length := hm
      rw [ods_len] at hm
      rw [ods_get]
      congr 1
      (unfold Builtin.Slice.sliceAdjust; simp; omega)
  | rv =>
    refine key _ _ _ _ ?_ fun m hm => ?_
    · show Builtin.Slice.slicePlaces (Builtin.Slice.sliceAdjust none none (-1) (xs.length : Int)).1 (Builtin.Slice.sliceAdjust none none (-1) (xs.length : Int)).2 (-1) = xs.reverse.length
      rw [List.length_reverse]
      unfold Builtin.Slice.sliceAdjust Builtin.Slice.slicePlaces
      simp
      split <;> omega
    · show xs[((Builtin.Slice.sliceAdjust none none (-1) (xs.length : Int)).1 + (m : Int) * (-1)).toNat]? = xs.reverse[m]?
      have hm : m < xs.reverse.length := hm
      rw [List.length_reverse] at hm
      rw [List.getElem?_reverse hm]
      congr 1
      (unfold Builtin.Slice.sliceAdjust; simp; omega)
theorem StK.map {α β : Type} {R : α → β → Prop} : ∀ (k : StK) {xs : List α} {ys : List β}, xs.length = ys.length → (∀ (i : Nat) (x : α), xs[i]? = some x → ∃ y, ys[i]? = some y ∧ R x y) → (k.ap xs).length = (k.ap ys).length ∧ ∀ (i : Nat) (x : α), (k.ap xs)[i]? = some x → ∃ y, (k.ap ys)[i]? = some y ∧ R x y := by
  intro k xs ys hl h
  cases k with
  | ev => exact ⟨by show (evs xs).length = (evs ys).length; rw [evs_len, evs_len, hl], fun i x (e : (evs xs)[i]? = _) => by
      rw [evs_get] at e; obtain ⟨y, h1, h2⟩ := h _ x e; exact ⟨y, by show (evs ys)[i]? = _; rw [evs_get]; exact h1, h2⟩⟩
  | od => exact ⟨by show (ods xs).length = (ods ys).length; rw [ods_len, ods_len, hl], fun i x (e : (ods xs)[i]? = _) => by
      rw [ods_get] at e; obtain ⟨y, h1, h2⟩ := h _ x e; exact ⟨y, by show (ods ys)[i]? = _; rw [ods_get]; exact h1, h2⟩⟩
  | rv => exact ⟨by show xs.reverse.length = ys.reverse.length; rw [List.length_reverse, List.length_reverse, hl], fun i x (e : xs.reverse[i]? = _) => by
      have l : i < xs.reverse.length := by
        rcases Nat.lt_or_ge i xs.reverse.length with q | q
        · exact q
        · rw [List.getElem?_eq_none q] at e; cases e
      rw [List.length_reverse] at l
      rw [List.getElem?_reverse l] at e
      obtain ⟨y, h1, h2⟩ := h _ x e
      refine ⟨y, ?_, h2⟩
      show ys.reverse[i]? = _
      rw [List.getElem?_reverse (by omega), ← hl]
      exact h1⟩
variable {K : PySem.W.Frag} {ad : Cl → Addr} {ct : CT}
section
variable {prog : Program} {w : World} {A : Around} {E : Value → Shared → Prop} {s : Shared}
/-- where such a slice begins, and how many places it has -/
def StK.at0 (k : StK) (n : Int) : Int := (Builtin.Slice.sliceAdjust k.lo none k.st n).1
def StK.many (k : StK) (n : Int) : Nat := Builtin.Slice.slicePlaces (k.at0 n) (Builtin.Slice.sliceAdjust k.lo none k.st n).2 k.st
end
section
variable {fr : Fr} {F F' H H' : Hp} {σ : L2.St} {ρ : List Sl} {W : WX} {X : Cx}
def tStT (K : PySem.W.Frag) (k : StK) (te : TE) : TE := fun σ H Q => te σ H fun x H1 => ∃ a xs, x = .ref a ∧ SqT K H1 a xs ∧ ∀ p, H1 p = none → Q (.ref p) (upd H1 p (.tup (k.ap xs)))
/-- the written parts of such a slice -/
inductive StE : StK → Option Expr → Option Expr → Prop
  | ev (k : Nat) (p : Pos) : StE .ev none (some (.Constant (.int 2) k p))
  | od (k k' : Nat) (p p' : Pos) : StE .od (some (.Constant (.int 1) k' p')) (some (.Constant (.int 2) k p))
  | rv (k : Nat) (p p' : Pos) : StE .rv none (some (.UnaryOp .USub (.Constant (.int 1) k p) p'))
theorem PO.get {lo : Option Expr} {to : TO} (h : PO X lo to) {pins : List (Addr × Obj)} {s : Shared} {σ : L2.St} {H : Hp} {o : Option Int} (I : Inv X pins σ H s) (q : to σ H fun o' H' => o' = o ∧ H' = H) :
    wpAny (model X.prog X.w) X.A (evalPart lo X.env) (fun vl s1 => Inv X pins σ H s1 ∧ IsPart vl o) X.xe s :=
  thn (h.run pins s σ H _ I q) fun vl s1 ⟨l, H2, I2, pl, el, e2⟩ => by subst el e2; exact ⟨I2, pl⟩
def evSt (k : StK) (m : Ev) : Ev := bnd (dat m) fun d => match d with | .tup xs => vD (.tup (k.ap xs)) | _ => fai
end
/-! ### x in o, x not in o, also as tests -/
end PL
namespace OW
open PySem PySem.Spec PyProof.Rows L2
section
variable {CX : CXT} {X : Cx} {C : Addr} {f : Addr} {fd : FuncData} {k : Nat} {ps : List Str} {sp : Sp} {E : XK}
end
end OW
namespace PL
open PySem PySem.Spec PyProof.Rows L2
section
variable {CX : CXT} {K : PySem.W.Frag} {ct : CT} {fr : Fr} {F F' H H' : Hp} {σ : L2.St} {ρ : List Sl} {W : WX} {X : Cx} {f : Addr} {fd : FuncData} {k : Nat} {ps : List Str} {n : Nat} {G : Fn} {pos : Pos}
/-- x not in o -/
def evOwnNin (n : Nat) (G : Fn) (c : Cl) (a b : Ev) : Ev := bnd (dat a) fun x => bnd (dat b) fun d => match d with
  | .obj c' xs => if c' = c then tst (noEr (callG n G [.d (.obj c xs), .d x])) |> fun t => bnd t fun b => vD (.bl (!b)) else fai
  | _ => fai
variable {m : Str} {a b : Expr} {fa fb : Ev}
end
end PL
/-! ### min, max, sum over a list or a tuple -/
namespace OW
open PySem PySem.Spec PyProof.Rows L2
def rMinT (K : PySem.W.Frag) : List V → Hp → VK → Prop := fun vs H Q => ∃ (a : Addr) (ns : List Int), vs = [V.ref a] ∧ SqT K H a (ns.map V.int) ∧ ns ≠ [] ∧ Q (.int (PL.minI ns)) H
def rMaxT (K : PySem.W.Frag) : List V → Hp → VK → Prop := fun vs H Q => ∃ (a : Addr) (ns : List Int), vs = [V.ref a] ∧ SqT K H a (ns.map V.int) ∧ ns ≠ [] ∧ Q (.int (PL.maxI ns)) H
/-- either of two readings of a call -/
def rOr (r1 r2 : List V → Hp → VK → Prop) : List V → Hp → VK → Prop := fun vs H Q => r1 vs H Q ∨ r2 vs H Q
end OW
namespace PL
open PySem PySem.Spec PyProof.Rows L2
section
variable {K : PySem.W.Frag} {ad : Cl → Addr} {X : Cx}
def aints (d : D) : Option (List Int) := d.items.bind D.ints
def gMinA : List D → Option D | [d] => (aints d).bind fun ns => if ns ≠ [] then some (.int (minI ns)) else none | _ => none
def gMaxA : List D → Option D | [d] => (aints d).bind fun ns => if ns ≠ [] then some (.int (maxI ns)) else none | _ => none
def gSumA : List D → Option D | [d] => (aints d).map fun ns => .int ns.sum | _ => none
end
end PL
end
section
/-! an exception class over a class over ValueError, whose __init__ says super().__init__(text) and then stores its one value -/
namespace EX
abbrev bmVE : List PySem.Value := [.type "ValueError", .type "Exception", .type "BaseException", .type "object"]
open PySem PySem.Spec PyProof.Rows L2
/-! ### a value told in a text -/
def FmtOk (K : PySem.W.Frag) (v : V) (H : Hp) : Prop := (∃ y : Str, v = .str y ∧ y.length ≤ 3000) ∨ (∃ i : Int, v = .int i ∧ i.natAbs.log2 < 1920) ∨ ∃ (t : Addr) (l : List Int), v = .ref t ∧ SqT K H t (l.map V.int) ∧ l.length ≤ 4 ∧ ∀ i ∈ l, i.natAbs.log2 < 1920
/-- {x}: some text -/
def tFmtA (K : PySem.W.Frag) (te : TE) : TE := fun σ H Q => te σ H fun x H1 => FmtOk K x H1 ∧ ∀ m : Str, m.length ≤ 10000 → Q (.str m) H1
/-! ### the def -/
/-- what is known at the start of the body: its frame, the cell of __class__ -/
def cxX (P : Program) (w : World) (K : PySem.W.Frag) (mg : Str → Option Value) (base : Heap) (N : List Str) (qual : Str) (scope : Scope) (f : Addr) (cd : Value) (cc : Addr) (A : Around) (outer : List Env) (s : Shared) (H : Hp) : Cx where
  prog := P
  w := w
  K := K
  mg := mg
  base := base
  A := A.deeper (PySem.W.ksEnv qual scope s.heap.objs.size f cd cc)
  N := N
  s_0 := s
  H_0 := H
  env := PySem.W.ksEnv qual scope s.heap.objs.size f cd cc
  outer := outer
  stack := PySem.W.ksEnv qual scope s.heap.objs.size f cd cc :: outer
  ex := []
  calm := true
  fn := fun _ => false
  pn := []
  xe := fun _ _ => False
section
variable {P : Program} {w : World} {K : PySem.W.Frag} {mg : Str → Option Value} {base : Heap} {A : Around} {outer : List Env} {s : Shared} {H : Hp} {h₀ : Heap} {N : List Str} {qual : Str} {scope : Scope} {f cc D : Addr} {cd : Value} {σ : L2.St} {t' : Nat} {m : Str → Option Value}
  {cl : Value} {cld : Option Addr} {csl : Array (Option Value)}
end
section
open PySem.W PySem.Calls
variable {A : Around} {prog : Program} {E : Value → Shared → Prop} {w : World}
variable {h : Heap} {g : Array GenState} {d : Drawn} {t : Nat} {os : OsState}
end
abbrev sfS : Str := "self"
/-- the argument's text -/
def tA (K : PySem.W.Frag) : TE := fun σ H Q => ∃ v, σ[1]? = some (some v) ∧ FmtOk K v H ∧ ∀ m : Str, m.length ≤ 11000 → Q (.str m) H
/-- the promise: at a stands a new exception of the class; its field gets the value -/
def spE (K : PySem.W.Frag) (C : Addr) (fld : Str) : Sp := fun vs H Q _ => ∃ (a : Addr) (v : V), vs = [.ref a, v] ∧ H a = some (exo a C none) ∧ FmtOk K v H ∧ ∀ dx, H dx = none → dx ≠ a → Q .non (upd (upd H dx (exd dx [(fld, v)])) a (exo a C (some dx)))
section
open PySem.W PySem.Calls
variable {P : Program} {w : World} {K : PySem.W.Frag} {mg : Str → Option Value} {base : Heap} {k : Nat} {f C cc cda : Addr} {fld x name qual : Str} {params : Arguments} {body : List Stmt} {scope : Scope} {dV kV doc pm ct oc ccl cl : Value} {an od cdd cld : Option Addr} {osl ccs csl : Array (Option Value)}
  {vs : Array Value} {file : Str} {tf : Tok} {cdD : ClassData} {ar : Arg} {p0 p1 p2 p3 p4 q1 q2 q3 q4 : Pos} {e : Expr}
end
section
variable {X : Cx} {scope : Scope} {x a b : Str} {j1 j2 : Nat} {r1 r2 r3 r4 r5 : Pos} {k : Nat}
end
end EX
end
section
namespace OW
open PySem PySem.Spec PyProof.Rows L2
/-! list(o), where o's __iter__ gives the iterator of a tuple -/
section
variable {X : Cx} {pins : List (Addr × Obj)} {σ : L2.St} {H : Hp} {A1 : Around} {t it q : Addr} {zs : List V} {Rs : Result → Shared → Prop}
theorem tit_loop (hh : A1.in1.handled = none) (hq : it ≠ q) (hf : ∀ acc, FpOk X pins (upd H q (.lst acc)) it) (ht : ∀ acc, SqT X.K (upd H q (.lst acc)) t zs)
    (hdone : ∀ s, Inv X pins σ (upd H q (.lst zs)) s → Rs (.ok (.ret .none)) s) :
    ∀ (m i : Nat) (s : Shared), zs.length - i = m → i ≤ zs.length → Inv X pins σ (upd H q (.lst (zs.take i))) s → s.heap.IsTupleIter it t i →
    codeAny (model X.prog X.w) A1 (.builtin "list.extend.loop" ⟨[.ref q, .ref it, .none], []⟩) Rs s := by
  intro m
  induction m with
  | zero =>
    intro i s em hi I st
    have ei : i = zs.length := by omega
    subst ei
    rw [List.take_length] at I
    (refine codeAny_builtin PySem.F.entry_extend_loop ?_)
    (rw [Around.under_plainId PySem.F.plain_extend_loop _])
    show wpAny _ A1.in1 (pyNext (.ref it) >>= _) _ _ s
    obtain ⟨its, rv, p, hz⟩ := I.tuple (ht _)
    have hl := rv.length
    obtain ⟨f0, f1, f2, f3, f4, f5⟩ := hf zs
    refine wpAny_bind (wpAny_pyNext_tuple_end hh st (show s.heap.IsTuple t its.toArray from p) (by simp; omega) fun h' eb => ?_)
    exact wpAny_pure (hdone _ (I.turned (t' := s.toks) (fun b o hb e => eb b o hb e) f0 f1 f3 f4 f5))
  | succ m ih =>
    intro i s em hi I st
    have hlt : i < zs.length := by omega
    (refine codeAny_builtin PySem.F.entry_extend_loop ?_)
    (rw [Around.under_plainId PySem.F.plain_extend_loop _])
    show wpAny _ A1.in1 (pyNext (.ref it) >>= _) _ _ s
    obtain ⟨its, rv, p, hz⟩ := I.tuple (ht _)
    obtain ⟨u, hu, ru⟩ := rv.get (List.getElem?_eq_getElem hlt)
    obtain ⟨f0, f1, f2, f3, f4, f5⟩ := hf (zs.take i)
    refine wpAny_bind (wpAny_pyNext_tuple_item st (show s.heap.IsTuple t its.toArray from p) (x := u) (by simpa using hu) fun h' st' sb => ?_)
    have I1 : Inv X pins σ (upd H q (.lst (zs.take i))) { s with heap := h' } := I.turned (t' := s.toks) (fun b o hb e => (sb.2 b hb).trans e) f0 f1 f3 f4 f5
    (show wpAny _ A1.in1 (updateSeq q (·.push u) >>= _) _ _ _)
    obtain ⟨z, its2, k, r2, hl2, e⟩ := I1.lstM upd_same
    have lt : (zs.take i).length = i := by rw [List.length_take]; omega
    have l2 : its2.length = i := by rw [← r2.length, lt]
    refine wpAny_bind (wpAny_updateSeq e rfl (wpAny_pure ⟨plainId_quiet PySem.F.plain_extend_loop _, ?_⟩) (by rw [List.size_toArray]; omega) (by show (its2.toArray.push u).size ≤ sizeLine + 1; rw [Array.size_push, List.size_toArray]; omega))
    have I2 := I1.lset (f := (·.push u)) (its' := its2 ++ [u]) (ys := zs.take i ++ [zs[i]]) (t' := s.toks) upd_same e (by simp) (r2.append (.cons ru .nil)) (by rw [List.length_append, List.length_singleton]; omega)
    rw [upd_upd, List.take_append_getElem hlt] at I2
    exact ih (i + 1) _ (by omega) hlt I2 (st'.at fun o e => (Heap.get?_update_other _ _ (fun h : q = it => hq h.symm)).trans e)
end
theorem hintless {M : Model} {A : Around} {E : Value → Shared → Prop} {Q : Bool → Shared → Prop} {K : PySem.W.Frag} {C a : Addr} {s : Shared} {ox : Obj} {od : Option Obj} (n1 : PySem.W.findIn K (.ref C) "__len__" = some none) (n2 : PySem.W.findIn K (.ref C) "__length_hint__" = some none)
    (hK : K.In s.heap) (J : PySem.W.InstAt s.heap a ox C od) (h : Q true s) : wpAny M A (Builtin.List.listLengthHint (.ref a)) Q E s := by
  (unfold Builtin.List.listLengthHint)
  refine wpAny_bind (wpAny_bind (J.type.here ((PySem.W.looks_findIn hK n1).here ?_)))
  refine PySem.W.KFB.if_not rfl (PySem.W.KFB.if_not rfl ?_)
  refine wpAny_bind (wpAny_bind (J.type.here ((PySem.W.looks_findIn hK n2).here ?_)))
  exact wpAny_pure h
/-- the list of an own object's tuple -/
def rOwnT (K : PySem.W.Frag) (C : Addr) (sp : Nat → Sp) : List V → Hp → VK → Prop := fun xs H Q => ∃ a dx fs, xs = [.ref a] ∧ H a = some (.ins C dx fs) ∧
  ∀ q n, H q = none → sp n [.ref a] (upd H q (.lst [])) (fun v G => ∃ it t zs, v = .ref it ∧ n ≤ it ∧ upd H q (.lst []) it = none ∧ G = upd (upd H q (.lst [])) it (TIt t it) ∧ (∀ acc, SqT K (upd H q (.lst acc)) t zs) ∧ Q (.ref q) (upd H q (.lst zs))) E0
section
variable {X : Cx} {k : Nat} {C f : Addr} {fd : FuncData} {ps : List Str} {sp : Nat → Sp}
theorem call_listT (hcalm : X.calm = true) (M : Meth X.K C "__iter__" f) (F : FnS X.prog X.w X.K X.mg X.base k f fd ps sp) (room : Room (k + 2) X.A) (bd : Binds X.K fd ps []) (n1 : PySem.W.findIn X.K (.ref C) "__len__" = some none) (n2 : PySem.W.findIn X.K (.ref C) "__length_hint__" = some none) :
    CallR X (.type "list") (rOwnT X.K C sp) := by
  (intro pins s σ H xs us Q I rv h)
  (obtain ⟨a, dx, fs, rfl, ha, hq⟩ := h)
  obtain ⟨u, rfl, ru⟩ := rv.one
  cases ru
  have sb : Sub X k X.A.in1.in1 := (Sub.in1 (Sub.in1 (⟨room, rfl⟩ : Sub X (k + 2) X.A)))
  refine callType_codes (Q₁ := fun obj s₁ => obj = .ref s.heap.objs.size ∧ s₁ = { s with heap := s.heap.push { cls := .type "list", data := .seq #[] } }) PySem.F.called_list (PySem.F.typeCall_list_1 _) PySem.F.entry_list_init (code_list_new _ ⟨rfl, rfl⟩) (fun obj s₁ h₁ => ?_)
  obtain ⟨rfl, rfl⟩ := h₁
  (have hS : (s.heap.push { cls := .type "list", data := .seq #[] }).get? s.heap.objs.size = some { cls := .type "list", data := .seq #[] } := Heap.get?_push_size _ rfl)
  (refine ⟨⟨_, hS, rfl⟩, PySem.F.args_list_init_2 _ _, ?_⟩)
  (have fr : H s.heap.objs.size = none := I.hok.fresh (Nat.le_refl _))
  (have I1 : Inv X pins σ (upd H s.heap.objs.size (.lst [])) { s with heap := s.heap.push { cls := .type "list", data := .seq #[] } } := I.lnew (its := []) (t' := s.toks) .nil (Nat.zero_le _))
  (show wpAny _ _ (do let old ← Builtin.List.listItems (.ref s.heap.objs.size); Builtin.List.listUpdate (.ref s.heap.objs.size) (fun _ => #[]); letGo old.toList.reverse; Builtin.List.listExtendWith (.ref s.heap.objs.size) (.ref a) .none) _ _ _)
  refine wpAny_bind ?_
  unfold Builtin.List.listItems
  (refine wpAny_bind (wpAny_seqItems hS rfl (wpAny_pure ?_)))
  (show wpAny _ _ (updateSeq s.heap.objs.size (fun _ => #[]) >>= fun _ => letGo (#[] : Array Value).toList.reverse >>= fun _ => Builtin.List.listExtendWith (.ref s.heap.objs.size) (.ref a) .none) _ _ _)
  (refine wpAny_bind (wpAny_updateSeq hS rfl ?_))
  (have I2 := I1.lset (f := fun _ => #[]) (its := []) (its' := []) (ys := []) (t' := s.toks) upd_same hS rfl .nil (Nat.zero_le _))
  rw [upd_upd] at I2
  (refine wpAny_bind (wpAny_letGo ?_))
  have hne : s.heap.objs.size ≠ a := fun z => by rw [← z, fr] at ha; cases ha
  (have ha2 : upd H s.heap.objs.size (.lst []) a = some (.ins C dx fs) := by rw [upd_ne (ne_of_none ha fr)]; exact ha)
  generalize s.heap.objs.size = q at *
  generalize ({ s with heap := _ } : Shared) = s₁ at I2
  have hq := hq q s₁.heap.objs.size fr
  obtain ⟨ox, od, J⟩ := inst I2 ha2
  obtain ⟨m', hF⟩ := I2.fr
  (unfold Builtin.List.listExtendWith)
  (refine wpAny_bind (J.type.here ?_))
  (have h1 : Builtin.List.listSameRef (.ref q) (.ref a) = false := by simp [Builtin.List.listSameRef, hne])
  (have h2 : (Value.ref C == Value.type "list") = false := rfl)
  (have h3 : (Value.ref C == Value.type "tuple") = false := rfl)
  (simp only [h1, h2, h3, Bool.or_false, Bool.false_eq_true, if_false])
  refine wpAny_bind (PySem.W.owit_iter hF I2.ok.mod.kin J M.at_ M.fn ?_)
  have e0 : Env0 X.prog X.w X.K X.mg X.base X.A.in1.in1 X.stack s₁ (upd H q (.lst [])) := by
    have e := I2.env0
    (exact ⟨by rw [sb.fr]; exact e.frames, e.mod, e.bs, e.bsz, e.funs, e.frf, e.hok, e.bare⟩)
  have len := (F.len _ _ _ _ _ hq)
  refine wpAny_call (codeAny_mono (F.run X.A.in1.in1 X.stack s₁ _ ⟨[.ref a], []⟩ [.ref a] [.ref a] _ E0 sb.room e0 (bd s₁ [.ref a] I2.kIn (by simpa using len)) (.cons rfl .nil) hq) fun r s2 hr => ?_)
  cases r with
  | error er => exact hr.elim
  | ok fl =>
    cases fl with
    | ret u =>
      obtain ⟨v, G3, I3, rv, it, t, zs, ev, young, frI, eG, hsq, hQ⟩ := I2.after hr
      subst ev eG
      cases rv
      have hx : upd (upd H q (.lst [])) it (TIt t it) it = some (TIt t it) := upd_same
      have st : s2.heap.IsTupleIter it t 0 := (I3.hok it _ hx).1
      have tyI : s2.TypeIs (.ref it) "tuple_iterator" := st.typeIs
      change PySem.W.OwitIt _ _ _ _ (.ref it) s2
      unfold PySem.W.OwitIt
      refine wpAny_specialOf (name := "__next__") tyI PySem.F.slot_tuple_iterator_next.lookup ?_
      have I4 := ItX.inv_drop I3 hx
      have gone : ItX.dropH (upd (upd H q (.lst [])) it (TIt t it)) it = upd H q (.lst []) := ItX.dropH_upd frI
      rw [gone] at I4
      have niq : it ≠ q := fun z => by rw [z, upd_same] at frI; cases frI
      have nia : it ≠ a := fun z => by rw [z, ha2] at frI; cases frI
      have fp : ∀ acc, FpOk X pins (upd H q (.lst acc)) it := fun acc => by
        have z := ItX.inv_fp I3 hx (Nat.le_trans I2.sz young)
        rw [gone] at z
        obtain ⟨z0, z1⟩ := z
        refine ⟨?_, z1⟩
        rw [upd_ne niq] at z0 ⊢
        exact z0
      obtain ⟨ox', od', J'⟩ := inst I4 ha2
      refine wpAny_bind (wpAny_holding (hintless n1 n2 I4.kIn J' ?_))
      obtain ⟨z, its, k3, r3, hl3, e3⟩ := I4.lstM upd_same
      cases r3
      have fin : ∀ (c : Nat) (s' : Shared), Inv X pins σ (upd H q (.lst [])) s' → s'.heap.IsTupleIter it t 0 → codeAny (model X.prog X.w) X.A.in1 (.builtin "list.extend.loop" ⟨[.ref q, .ref it, .none], []⟩) (wants (fun r s₂ => r = .none ∧ EP X pins σ Q (.ref q) s₂) X.xe) s' := fun c s' I' st' =>
        tit_loop (A1 := X.A.in1) (Rs := wants (fun r s₂ => r = .none ∧ EP X pins σ Q (.ref q) s₂) X.xe) (I2.ok.hd hcalm) niq fp hsq (fun s'' I'' => ⟨rfl, .ref q, _, I'', rfl, hQ⟩) _ 0 s' rfl (Nat.zero_le _) (by simpa using I') st'
      refine wpAny_ite_split (fun _ => ?_) (fun _ => wpAny_pure ⟨plainId_quiet PySem.F.plain_extend_loop _, fin 0 _ I4 st⟩)
      (refine wpAny_bind (wpAny_rule ?_))
      refine wpAny_bind ?_
      (show wpAny _ _ (updateSeq q (·.push .none) >>= fun _ => updateSeq q (·.pop)) _ _ _)
      (refine wpAny_bind (wpAny_updateSeq e3 rfl ?_))
      have I5 := I4.lset (f := (·.push Value.none)) (its' := [Value.none]) (ys := [.non]) (t' := s2.toks) upd_same e3 (by simp) (.cons rfl .nil) (by rw [List.length_singleton, sizeLine_eq]; decide)
      obtain ⟨z4, its4, k4, r4, hl4, e4⟩ := I5.lstM upd_same
      (obtain ⟨u4, rfl, ru4⟩ := r4.one)
      (refine wpAny_updateSeq e4 rfl ?_ (by show 1 ≤ sizeLine; rw [sizeLine_eq]; decide) (by show 0 ≤ sizeLine + 1; exact Nat.zero_le _))
      have I6 := I5.lset (f := (·.pop)) (its := [u4]) (its' := []) (ys := []) (t' := s2.toks) upd_same e4 (by rfl) .nil (Nat.zero_le _)
      rw [upd_upd, upd_upd] at I6
      exact wpAny_pure ⟨plainId_quiet PySem.F.plain_extend_loop _, fin 0 _ I6 (st.at fun o e => (Heap.get?_update_other _ _ (Ne.symm niq)).trans ((Heap.get?_update_other _ _ (Ne.symm niq)).trans e))⟩
    | next => exact False.elim hr
    | brk => exact False.elim hr
    | cont => exact False.elim hr
end
end OW
end
section
set_option maxHeartbeats 3200000
namespace OW
open PySem PySem.Spec PyProof.Rows L2
/-! set(xs), xs a list of ints; sorted(set(xs)) -/
section
variable {w : World} {P : Program} {A : Around} {s : Shared} {E : Value → Shared → Prop}
/-- the set object before anything is in it -/
abbrev newSet (w : World) : Obj := { cls := .type "set", dict := none, data := .set #[] 0 (.fresh 0 0 (!w.params.followText "set-order")) }
/-- set.__init__ over a list of ints -/
theorem setInit_list {l : Addr} {its : Array Value} {ns : List Int} {S : Addr} {Q : Value → Shared → Prop} (hh : A.handled = none) (hS : s.heap.get? S = some (newSet w)) (hl : s.heap.IsList l its) (hi : IntsAre its.toList ns) (hb : ns.length + 1 < scanBound)
    (h : ∀ (h' : Heap) (tk c : Nat), SetR w h' S (fun j => decide (j ∈ ns)) c → c ≤ ns.length → (∀ b o, b ≠ S → s.heap.get? b = some o → h'.get? b = some o) → Q .none { s with heap := h', toks := tk }) :
    codeAny (model P w) A (.builtin "set.__init__" ⟨[.ref S, .ref l], []⟩) (wants Q E) s := by
  have sz : its.size = ns.length := by
    have q := hi.length
    rwa [Array.length_toList] at q
  have hT : s.TypeIs (.ref S) "set" := ⟨_, hS, rfl⟩
  obtain ⟨ol, hol, hcl, nl, hdl⟩ := id hl
  obtain ⟨oc, od, oda, osl⟩ := ol
  simp only at hcl hdl
  subst hcl hdl
  have f1 := PySem.F.sub_list_set
  have f2 := PySem.F.sub_list_frozenset
  have f3 : (Value.type "list" == Value.type "dict") = false := by decide
  refine codeAny_builtin PySem.F.entry_set_init ?_
  rw [Around.under_plainId PySem.F.called_set.init.plain _]
  (unfold Builtin.«set.__init__» noKeywords Builtin.Frozenset.updateFrom)
  generalize hPI : pyIter = PI
  wp_walk
  subst hPI
  (refine wpAny_pyIter_list hl ?_)
  (refine wpAny_bind (wpAny_runValue ?_))
  have lS : l ≠ S := fun e => by
    rw [e, hS] at hol
    have q := congrArg Obj.cls (Option.some.inj hol)
    exact absurd (show Value.type "set" = Value.type "list" from q) (by decide)
  have lt1 : l < s.heap.objs.size := Heap.lt_size hol
  have lt2 : S < s.heap.objs.size := Heap.lt_size hS
  have hv : ∀ (i : Nat) (v : Value), its[i]? = some v → ∃ k t, ns[i]? = some k ∧ v = .int k t := fun i v e => by
    have li : i < ns.length := by rw [← sz]; exact (Array.getElem?_eq_some_iff.mp e).1
    obtain ⟨t, q⟩ := IntsAre.int_at hi i v (by rw [Array.getElem?_toList]; exact e)
    exact ⟨ns[i], t, List.getElem?_eq_getElem li, by rw [q, List.getD_eq_getElem?_getD, List.getElem?_eq_getElem li]; rfl⟩
  have W := (Walks.list (prog := P) (w := w) (A := A.in1.in1) (by simp [hh]) s.heap.objs.size l (Nat.ne_of_lt lt1) its).toS
  have out : S ∉ [s.heap.objs.size, l] := by
    simp only [List.mem_cons, List.not_mem_nil, or_false, not_or]
    exact ⟨Nat.ne_of_lt lt2, fun e => lS e.symm⟩
  refine set_update_ints W S out ns sz hb hv its.size 0 _ (Nat.sub_zero _) (Nat.zero_le _) ⟨⟨_, Heap.get?_push_size _ rfl, rfl, rfl⟩, hl.push _⟩ ⟨0, Nat.le_refl _, setR_new_at (Heap.get?_push_of_some _ hS)⟩ fun s' c hm hc hS' => ?_
  (obtain ⟨h', g', d', tk', os'⟩ := s')
  (have e1 : g' = s.gens := hm.gens)
  (have e2 : d' = s.drawn := hm.drawn)
  have e3 : os' = s.os := hm.os
  subst e1 e2 e3
  (refine wpAny_pure (wpAny_pure ?_))
  exact h h' tk' c hS' (by omega) fun b o nb e => hm.heap b o (by
    simp only [List.mem_cons, List.not_mem_nil, or_false, not_or]
    exact ⟨nb, Nat.ne_of_lt (Heap.lt_size e)⟩) (Heap.get?_push_of_some _ e)
/-- set(xs) -/
theorem call_setL {l : Addr} {its : Array Value} {ns : List Int} {Q : Value → Shared → Prop} (hh : A.handled = none) (hl : s.heap.IsList l its) (hi : IntsAre its.toList ns) (hb : ns.length + 1 < scanBound)
    (hq : ∀ (h' : Heap) (tk c : Nat), SetR w h' s.heap.objs.size (fun j => decide (j ∈ ns)) c → c ≤ ns.length → (∀ b o, s.heap.get? b = some o → h'.get? b = some o) → Q (.ref s.heap.objs.size) { s with heap := h', toks := tk }) : wpAny (model P w) A (call (.type "set") [.ref l]) Q E s := by
  have h := hq
  have ft := PySem.F.called_set
  have f1 := ft.notType
  have f2 := ft.canCreate
  have f3 := PySem.F.typeCall_set_1 (.ref l)
  obtain ⟨_, _, mro⟩ := ft.mro
  have made := ft.made
  have sub := ft.sub
  (refine wpAny_call (codeAny_of_tree ?_))
  (show wpAny _ _ (callAny (.type "set") _) _ _ _)
  (refine wpAny_pure ⟨Code.quiet_builtin _ (by decide +kernel), codeAny_builtin PySem.F.entry_type_call ?_⟩)
  (rw [Around.under_plain (weight_type_call_type "set" [.ref l] []) rfl])
  (repeat (any_goals (first | assumption | wp_step)))
  refine codeAny_mono (code_set_led1 (.ref l) (E := E) (Q₁ := fun o s₁ => o = .ref s.heap.objs.size ∧ s₁ = { s with heap := s.heap.push (newSet w) }) ⟨rfl, rfl⟩) fun r s₁ hr => ?_
  match r, hr with
  | .error e, hr => exact hr
  | .ok .next, hr => exact hr.elim
  | .ok .brk, hr => exact hr.elim
  | .ok .cont, hr => exact hr.elim
  | .ok (.ret obj), hr =>
    obtain ⟨rfl, rfl⟩ := hr
    have gS : (s.heap.push (newSet w)).get? s.heap.objs.size = some (newSet w) := Heap.get?_push_size _ rfl
    have tS : Shared.TypeIs { s with heap := s.heap.push (newSet w) } (.ref s.heap.objs.size) "set" := ⟨_, gS, rfl⟩
    have i1 := ft.init.lookup
    have i2 := ft.init.bind (.ref s.heap.objs.size)
    (repeat (any_goals (first | assumption | wp_step)))
    have lst : (s.heap.push (newSet w)).IsList l its := by
      obtain ⟨o, ho, q⟩ := id hl
      exact ⟨o, Heap.get?_push_of_some _ ho, q⟩
    refine codeAny_mono (codeAny_call_builtin_code (R := wants (fun r s₂ => r = .none ∧ ∃ (h' : Heap) (tk c : Nat), s₂ = { s with heap := h', toks := tk } ∧ SetR w h' s.heap.objs.size (fun j => decide (j ∈ ns)) c ∧ c ≤ ns.length ∧ ∀ b o, s.heap.get? b = some o → h'.get? b = some o) E)
      (plainId_quiet ft.init.plain _) (check_set_init_1 tS (setInit_list (by simp [hh]) gS lst hi hb fun h' tk c R1 hc kp => ⟨rfl, h', tk, c, rfl, R1, hc, fun b o e => kp b o (Nat.ne_of_lt (Heap.lt_size e)) (Heap.get?_push_of_some _ e)⟩))) fun r₂ s₂ hr₂ => ?_
    match r₂, hr₂ with
    | .error e, hr => exact hr
    | .ok .next, hr => exact hr.elim
    | .ok .brk, hr => exact hr.elim
    | .ok .cont, hr => exact hr.elim
    | .ok (.ret v), hr =>
      obtain ⟨rfl, h', tk, c, rfl, R1, hc, kp⟩ := hr
      (repeat (any_goals (first | assumption | wp_step)))
      exact h h' tk c R1 hc kp
end
/-- set(xs): where it stands, what is in it -/
def PSt (X : Cx) (e : Expr) (t : L2.St → Hp → (List Int → Hp → Prop) → Prop) : Prop := ∀ (pins : List (Addr × Obj)) (s : Shared) (σ : L2.St) (H : Hp) (Q : List Int → Hp → Prop), Inv X pins σ H s → t σ H Q →
  wpAny (model X.prog X.w) X.A (eval e X.env) (fun v s' => ∃ (a : Addr) (ns : List Int) (n : Nat) (H1 : Hp), v = .ref a ∧ SetR X.w s'.heap a (fun j => decide (j ∈ ns)) n ∧ n ≤ ns.length ∧ Inv X pins σ H1 s' ∧ Q ns H1) X.xe s
def tSt (K : PySem.W.Frag) (ta : TE) : L2.St → Hp → (List Int → Hp → Prop) → Prop := fun σ H Q => ta σ H fun x H1 => ∃ (p : Addr) (ns : List Int), x = .ref p ∧ SqL K H1 p (ns.map V.int) ∧ ns.length ≤ 60 ∧ Q ns H1
section
variable {X : Cx} {e : Expr} {ta : TE} {p pos : Pos}
theorem pst_list (hc : X.calm = true) (hg : Gl X "set") (hm : X.mg "set" = none) (ha : PE X e ta) (na : starEach [e] X.env = (false, eval e X.env) :: starEach [] X.env := by rfl) : PSt X (.Call (.Name "set" p) [e] [] pos) (tSt X.K ta) := by
  intro pins s σ H Q I h
  refine Call_ (ld_blt I hg hm PyProof.Rows.boot_set (PyProof.Rows.callWith_type1 (one_arg ha I h (fun v s2 x H2 I2 r q => ?_) na) na))
  obtain ⟨l, ns, rfl, hq, hl, q⟩ := q
  cases r
  obtain ⟨its, rv, pl, hz⟩ := I2.list hq
  refine call_setL (I2.ok.hd hc) pl.isList (ints_of_vals rv) (by unfold scanBound; omega) fun h' tk c R1 hn kp => ?_
  exact ⟨_, ns, c, H2, rfl, R1, hn, I2.kept kp, q⟩
theorem vals_ints : ∀ {us : List Value} {ns : List Int}, IntsAre us ns → Vals (ns.map V.int) us
  | _, _, .nil => .nil
  | _, _, .cons k t r => .cons ⟨t, rfl⟩ (vals_ints r)
def tSrtSt (te : L2.St → Hp → (List Int → Hp → Prop) → Prop) : TE := fun σ H Q => te σ H fun ns H1 => ns.length ≤ 60 ∧ ∀ q (ms : List Int), H1 q = none → ms.Pairwise (· < ·) → (∀ k, k ∈ ms ↔ k ∈ ns) → Q (.ref q) (upd H1 q (.lst (ms.map V.int)))
theorem pe_srtSt {te : L2.St → Hp → (List Int → Hp → Prop) → Prop} (hc : X.calm = true) (hg : Gl X "sorted") (hm : X.mg "sorted" = none) (he : PSt X e te) (na : starEach [e] X.env = (false, eval e X.env) :: starEach [] X.env := by rfl) : PE X (.Call (.Name "sorted" p) [e] [] pos) (tSrtSt te) := by
  (refine ⟨fun pins s σ H Q I h => ?_⟩)
  refine Call_ (ld_blt I hg hm (u := .builtin "sorted") (by decide +kernel) (PyProof.Rows.callWith_builtin1 (args_cons (thn (he pins s σ H _ I h) fun v s1 ⟨a, ns, n, H1, ev, R1, hn, I1, hl, q⟩ => args_nil ?_) na) na))
  subst ev
  refine sorted_set R1 (I1.ok.hd hc) (by omega) fun s' b out c ms kp hg' ho hb ob hi asc mem len => ?_
  have fr := I1.hok.fresh hb
  have new : ObjOk X.prog X.w (upd H1 b (.lst (ms.map V.int))) s'.heap b (.lst (ms.map V.int)) := ⟨by rw [List.length_map, sizeLine_eq]; omega, out.toList, c, vals_ints hi, by rw [Array.toArray_toList]; exact ob⟩
  refine ⟨.ref b, upd H1 b (.lst (ms.map V.int)), I1.call' (ch := []) ho (Un.laid kp hb fr) (I1.hok.laid kp hb new) (by rw [hg']; exact I1.bare) (fun _ z => nomatch z), rfl, q b ms fr asc fun k => ?_⟩
  rw [mem, decide_eq_true_iff]
end
end OW
end
section
namespace OW
open PySem PySem.Spec PyProof.Rows L2
/-! o(..), o an own object with __call__ -/
section
variable {M : Model} {A : Around} {s : Shared} {env : Env} {E : Value → Shared → Prop}
end
def tCO (C : Addr) (sp : Sp) (E : L2.St → XK) (ta : TE) (t : TA) : TE := fun σ H Q => ta σ H fun x H1 => ∃ a dx fs, x = .ref a ∧ H1 a = some (.ins C dx fs) ∧ t σ H1 fun vs H2 => H2 a = some (.ins C dx fs) ∧ sp (.ref a :: vs) H2 Q (E σ)
end OW
end
section
/-! zip of two texts -/
namespace OW
open PySem PySem.Spec PyProof.Rows L2
/-- two texts, sign by sign, in new pairs -/
def ItzS (a b : Str) : It :=
  ⟨fun i _ => i < a.cps.size ∧ i < b.cps.size, fun i H v H' => ∃ T c d, v = .ref T ∧ H T = none ∧ H' = upd H T (.tup [.str ⟨#[c]⟩, .str ⟨#[d]⟩]) ∧ a.cps[i]? = some c ∧ b.cps[i]? = some d,
    fun i _ => a.cps.size ≤ i ∨ b.cps.size ≤ i⟩
def iZipS (ta : TA) : TI := fun σ H R => ta σ H fun vs H1 => ∃ a b, vs = [.str a, .str b] ∧ R (ItzS a b) H1
end OW
namespace PL
open PySem PySem.Spec PyProof.Rows L2
variable {K : PySem.W.Frag} {ct : CT} {W : WX} {F : Hp} {X : Cx}
def itZS (a b : Ev) : M (List D) := bnd (dat a) fun x => bnd (dat b) fun y => match x, y with
  | .str s, .str t => pur (zipD (chars s) (chars t))
  | _, _ => fai
end PL
end
section
/-! exceptions with a value of their own -/
namespace PL
open PySem PySem.Spec PyProof.Rows L2
variable {K : PySem.W.Frag} {ad : Cl → Addr} {ct : CT}
variable {fr : Fr} {F F' H H' : Hp} {σ : L2.St} {ρ : List Sl} {W : WX}
/-- a value that may be told in a text -/
def fmtD : D → Bool
  | .str y => decide (y.length ≤ 3000)
  | .int k => decide (k.natAbs.log2 < 1920)
  | .tup xs => match D.ints xs with | some l => decide (l.length ≤ 4) && l.all fun i => decide (i.natAbs.log2 < 1920) | none => false
  | _ => false
theorem ints_of : ∀ {xs : List D} {l : List Int}, D.ints xs = some l → xs = l.map D.int
  | [], l, h => by cases h; rfl
  | x :: xs, l, h => by
    cases x <;> try (simp [D.ints] at h; done)
    rename_i i
    have h : (D.ints xs).map (i :: ·) = some l := h
    obtain ⟨a, e, rfl⟩ := map_some h
    rw [ints_of e]
    rfl
def evRaiseP (c : Cl) (m : Ev) : M Fl := bnd (dat m) fun d => if fmtD d = true then (fun ρ => some (.er c (some d), ρ)) else fai
/-! ### list(o) of an own object, list.clear -/
def gLstO (c : Cl) (i : Nat) : List D → Option CC
  | [.obj c' xs] => if c' = c then (match xs[i]? with | some (.tup ys) => some (.lst ys) | _ => none) else none
  | _ => none
theorem ob_lstO {f : Str} (c : Cl) (i : Nat) (hi : c.fn.findIdx? (fun k => f == k) = some i := by decide) : OBc K ad (OW.rOwnT K (ad c) (spIt K (ad c) f)) (gLstO c i) := by
  intro F H vs ds z Q s r e q
  unfold gLstO at e
  split at e
  · rename_i c' xs
    split at e
    · rename_i ec
      subst ec
      split at e
      · rename_i ys e1
        cases e
        obtain ⟨v, rfl, rv⟩ := one_i r
        cases rv with
        | @obj p dx _ vs _ h1 l1 k1 =>
          obtain ⟨w, g1, g2⟩ := k1.get e1
          cases g2 with
          | @tup t us _ h2 k2 =>
            refine ⟨p, dx, _, rfl, s _ _ h1, fun l n hl => ?_⟩
            have s2 : ∀ acc, Same F (upd H l (.lst acc)) := fun acc => s.trans (same_up hl)
            refine ⟨p, dx, t, _, us, rfl, s2 _ _ _ h1, by rw [look_zip l1 hi, g1], sameT (s2 _) h2, fun it fresh young => ⟨it, t, us, rfl, young, fresh, rfl, fun acc => sameT (s2 _) h2, q l _ hl fun _ => ⟨_, upd_same, k2⟩⟩⟩
      · cases e
    · cases e
  · cases e
def fClr : List D → List D → Option (D × List D) | _, [] => some (.non, []) | _, _ => none
/-! ### sorted(xs), xs a list of pairs of ints -/
def pD (k : Int × Int) : D := .tup [.int k.1, .int k.2]
def prs : List D → Option (List (Int × Int))
  | [] => some []
  | .tup [.int a, .int b] :: r => (prs r).map ((a, b) :: ·)
  | _ => none
/-- the order of pairs -/
def PLe (a b : Int × Int) : Prop := a.1 < b.1 ∨ (a.1 = b.1 ∧ a.2 ≤ b.2)
instance (a b : Int × Int) : Decidable (PLe a b) := by unfold PLe; infer_instance
def insP (k : Int × Int) : List (Int × Int) → List (Int × Int)
  | [] => [k]
  | x :: r => if PLe k x then k :: x :: r else x :: insP k r
def srtP : List (Int × Int) → List (Int × Int)
  | [] => []
  | k :: r => insP k (srtP r)
theorem Rps.at_ {us : List V} {ds : List D} (r : Rps K ad F us ds) : ∀ x ∈ us, ∃ d ∈ ds, Rp K ad F x d := by
  induction us generalizing ds with
  | nil => intro x hx; simp at hx
  | cons u us ih =>
    intro x hx
    cases r with
    | cons a t =>
      rcases List.mem_cons.mp hx with e | e
      · subst e; exact ⟨_, List.mem_cons_self, a⟩
      · obtain ⟨d, hd, q⟩ := ih t x e
        exact ⟨d, List.mem_cons_of_mem _ hd, q⟩
theorem Rps.back {us : List V} {ds : List D} (r : Rps K ad F us ds) : ∀ d ∈ ds, ∃ x ∈ us, Rp K ad F x d := by
  induction us generalizing ds with
  | nil => cases r; intro x hx; simp at hx
  | cons u us ih =>
    cases r with
    | cons a t =>
      intro d hd
      rcases List.mem_cons.mp hd with e | e
      · subst e; exact ⟨_, List.mem_cons_self, a⟩
      · obtain ⟨d, hd, q⟩ := ih t d e
        exact ⟨d, List.mem_cons_of_mem _ hd, q⟩
theorem Rps.pw {P : V → V → Prop} {R : D → D → Prop} (g : ∀ x y d e, P x y → Rp K ad F x d → Rp K ad F y e → R d e) : ∀ {us : List V} {ds : List D}, Rps K ad F us ds → us.Pairwise P → ds.Pairwise R := by
  intro us
  induction us with
  | nil => intro ds r _; cases r; exact .nil
  | cons u us ih =>
    intro ds r h
    cases r with
    | cons a t =>
      have h := List.pairwise_cons.mp h
      refine List.pairwise_cons.mpr ⟨fun e he => ?_, ih t h.2⟩
      obtain ⟨x, hx, q⟩ := t.back e he
      exact g _ _ _ _ (h.1 x hx) a q
def unD : D → Int × Int | .tup [.int a, .int b] => (a, b) | _ => (0, 0)
def gSrtP : List D → Option CC
  | [.lst xs] => match prs xs with
    | some ks => if ks.length < 64 ∧ ∀ k ∈ ks, (0 ≤ k.1 ∧ k.1 < 1000) ∧ 0 ≤ k.2 ∧ k.2 < 1000 then some (.lst ((srtP ks).map pD)) else none
    | none => none
  | _ => none
/-! ### C.m(..), m a classmethod that raises -/
section
variable {X : Cx} {CX : CXT} {k : Nat} {f q : Addr} {fd : FuncData} {ps : List Str} {x m : Str} {p pos apos : Pos} {e o : Expr} {es : List Expr} {n : Nat} {G : Fn} {as : List AE} {mc : Value} {sp : Sp}
def tCMS (C : Addr) (sp : Sp) (E : L2.St → XK) (ta : TE) (t : TA) : TE := fun σ H Q => ta σ H fun x H1 => x = .ref C ∧ t σ H1 fun vs H2 => sp (.ref C :: vs) H2 Q (E σ)
def evCallCS (n : Nat) (G : Fn) (c : Cl) (as : List AE) : Ev := bnd (evAs as) fun ar => callG n G (.d (.cl c) :: ar)
end
/-! ### xs[e], xs a cell that e leaves as it is, though it may change others -/
def evIxL (j : Nat) (e : Ev) : Ev := bnd (isL j) fun _ => bnd (dat e) fun d => fun ρ => match d, ρ[j]? with
  | .int i, some (.cel _ (.lst xs)) => (match atI xs i with | some z => some (.ok (.d z), ρ) | none => none)
  | _, _ => none
theorem pp_ixL {X : Cx} {x : Str} {b : Expr} {fb : Ev} {p pos : Pos} (j : Nat) (eK : X.K = K) (ha : PE X (.Name x p) (tVar j)) (hb : PE X b (TP K ct W fb)) (hs : PlainIx b) : PE X (.Subscript (.Name x p) b pos) (TP K ct W (evIxL j fb)) := (pe_ix (ix_seqK eK) ha hb hs).imp fun σ H Q h => by
  obtain ⟨fr, F, ρ, S, h⟩ := h
  obtain ⟨a, vs, h1, h2, h⟩ := Tat.isL h S
  refine ⟨_, h1, ?_⟩
  show T K ct (RV K ct.ad) W fb σ H _
  refine Tat.dat h S fun F1 H1 ρ1 v d s1 S1 r1 h => ?_
  obtain ⟨r0, ρ', e, q⟩ := h
  dsimp only at e
  split at e
  · rename_i i k xs e2
    split at e
    · rename_i z ez
      cases e
      obtain ⟨o, g1, p', a1, a2, a3, a4, a5, vs', a6, a7⟩ := S1.slot j _ e2
      rw [h1] at g1
      subst a1
      cases g1
      cases r1
      obtain ⟨w, w1, w2⟩ := a7.atI ez
      exact .inl ⟨_, _, _, w, rfl, rfl, SqL.of a6, w1, q w F1 _ (Same.refl _) S1 w2⟩
    · cases e
  · cases e
/-! ### list(range(a, b)), sorted(set(xs)) -/
theorem rps_i : ∀ ns : List Int, Rps K ad F (ns.map V.int) (ns.map D.int)
  | [] => .nil
  | n :: ns => .cons (.int n) (rps_i ns)
def evLstRg (fa fb : Ev) : Ev := bnd (dat fa) fun x => bnd (dat fb) fun y => match x, y with
  | .int i, .int j => if -(2 ^ 62) ≤ i ∧ i < 2 ^ 62 ∧ -(2 ^ 62) ≤ j ∧ j < 2 ^ 62 ∧ (j - i).toNat ≤ 2 ^ 24 then pur (.c (.lst (rngD i (j - i).toNat))) else fai
  | _, _ => fai
theorem pp_lstRg {X : Cx} {a b : Expr} {fa fb : Ev} {p p2 pos pos2 : Pos} (eK : X.K = K) (hc : X.calm = true) (hg : Gl X "list") (hm : X.mg "list" = none) (hgR : Gl X "range") (hmR : X.mg "range" = none) (ha : PE X a (TP K ct W fa)) (hb : PE X b (TP K ct W fb))
    (n1 : starEach [a, b] X.env = (false, eval a X.env) :: starEach [b] X.env := by rfl) (n2 : starEach [b] X.env = (false, eval b X.env) :: starEach [] X.env := by rfl) (n3 : (backTo pos2 (starEach [b] X.env)).any (·.1) = false := by rfl)
    (n4 : starEach [.Call (.Name "range" p2) [a, b] [] pos2] X.env = (false, eval (.Call (.Name "range" p2) [a, b] [] pos2) X.env) :: starEach [] X.env := by rfl) :
    PE X (.Call (.Name "list" p) [.Call (.Name "range" p2) [a, b] [] pos2] [] pos) (TP K ct W (evLstRg fa fb)) := (pe_listRg hc hg hm (prg_2 hgR hmR ha hb n1 n2 n3) n4).imp fun σ H Q h => by
  obtain ⟨fr, F, ρ, S, h⟩ := h
  show T K ct (RV K ct.ad) W fa σ H _
  refine Tat.dat h S fun F1 H1 ρ1 v d s1 S1 r1 h => ?_
  show T K ct (RV K ct.ad) W fb σ H1 _
  refine Tat.dat h S1 fun F2 H2 ρ2 u e s2 S2 r2 h => ?_
  obtain ⟨r0, ρ', e0, q⟩ := h
  cases d <;> try (cases e <;> cases e0; done)
  rename_i i
  cases e <;> try (cases e0; done)
  rename_i j
  cases r1
  cases r2
  dsimp only at e0
  split at e0
  · rename_i hr
    cases e0
    refine ⟨i, j, rfl, rfl, hr, fun l hl => q _ F2 _ (Same.refl _) (S2.newC hl) ⟨l, rfl, S2.fresh hl ⟨_, upd_same, ?_⟩⟩⟩
    have e1 : rgV i j = ((List.range (j - i).toNat).map fun (k : Nat) => i + (k : Int)).map V.int := by unfold rgV; rw [List.map_map]; rfl
    have e2 : rngD i (j - i).toNat = ((List.range (j - i).toNat).map fun (k : Nat) => i + (k : Int)).map D.int := by unfold rngD; rw [List.map_map]; rfl
    rw [e1, e2]
    exact rps_i _
  · cases e0
def insI (k : Int) : List Int → List Int
  | [] => [k]
  | x :: r => if k < x then k :: x :: r else if k = x then x :: r else x :: insI k r
def srtI : List Int → List Int
  | [] => []
  | k :: r => insI k (srtI r)
theorem insI_mem (k n : Int) : ∀ l, n ∈ insI k l ↔ n = k ∨ n ∈ l
  | [] => by simp [insI]
  | x :: r => by
    unfold insI
    split
    · simp
    · split
      · rename_i e; subst e; simp
      · rw [List.mem_cons, insI_mem k n r, List.mem_cons]
        constructor
        · rintro (e | e | e)
          · exact .inr (.inl e)
          · exact .inl e
          · exact .inr (.inr e)
        · rintro (e | e | e)
          · exact .inr (.inl e)
          · exact .inl e
          · exact .inr (.inr e)
theorem srtI_mem (n : Int) : ∀ l, n ∈ srtI l ↔ n ∈ l
  | [] => by simp [srtI]
  | k :: r => by rw [srtI, insI_mem, srtI_mem n r, List.mem_cons]
theorem insI_asc (k : Int) : ∀ {l : List Int}, l.Pairwise (· < ·) → (insI k l).Pairwise (· < ·)
  | [], _ => by simp [insI]
  | x :: r, h => by
    have h2 := List.pairwise_cons.mp h
    unfold insI
    split
    · rename_i c
      refine List.pairwise_cons.mpr ⟨fun y hy => ?_, h⟩
      (rcases List.mem_cons.mp hy with e | e)
      · omega
      · have := h2.1 y e; omega
    · split
      · exact h
      · refine List.pairwise_cons.mpr ⟨fun y hy => ?_, insI_asc k h2.2⟩
        rcases (insI_mem k y r).mp hy with e | e
        · omega
        · exact h2.1 y e
theorem srtI_asc : ∀ l, (srtI l).Pairwise (· < ·)
  | [] => .nil
  | k :: r => insI_asc k (srtI_asc r)
theorem lt_uniq : ∀ {l m : List Int}, l.Pairwise (· < ·) → m.Pairwise (· < ·) → (∀ k, k ∈ l ↔ k ∈ m) → l = m
  | [], [], _, _, _ => rfl
  | [], b :: m, _, _, h => absurd ((h b).mpr List.mem_cons_self) (by simp)
  | a :: l, [], _, _, h => absurd ((h a).mp List.mem_cons_self) (by simp)
  | a :: l, b :: m, h1, h2, h => by
    have p1 := List.pairwise_cons.mp h1
    have p2 := List.pairwise_cons.mp h2
    have e : a = b := by
      rcases List.mem_cons.mp ((h a).mp List.mem_cons_self) with e | e
      · exact e
      · rcases List.mem_cons.mp ((h b).mpr List.mem_cons_self) with f | f
        · exact f.symm
        · have := p1.1 b f
          have := p2.1 a e
          omega
    subst e
    have go : ∀ k, k ∈ l ↔ k ∈ m := fun k => by
      constructor
      · intro hk
        rcases List.mem_cons.mp ((h k).mp (List.mem_cons_of_mem _ hk)) with e | e
        · have := p1.1 k hk; omega
        · exact e
      · intro hk
        rcases List.mem_cons.mp ((h k).mpr (List.mem_cons_of_mem _ hk)) with e | e
        · have := p2.1 k hk; omega
        · exact e
    rw [lt_uniq p1.2 p2.2 go]
def evSrtSt (fe : Ev) : Ev := bnd (dat fe) fun d => match d with
  | .lst xs => (match D.ints xs with | some ns => if ns.length ≤ 60 then pur (.c (.lst ((srtI ns).map .int))) else fai | none => fai)
  | _ => fai
theorem pp_srtSt {X : Cx} {a : Expr} {fa : Ev} {p p2 pos pos2 : Pos} (eK : X.K = K) (hc : X.calm = true) (hg : Gl X "sorted") (hm : X.mg "sorted" = none) (hgS : Gl X "set") (hmS : X.mg "set" = none) (ha : PE X a (TP K ct W fa))
    (n1 : starEach [a] X.env = (false, eval a X.env) :: starEach [] X.env := by rfl)
    (n2 : starEach [.Call (.Name "set" p2) [a] [] pos2] X.env = (false, eval (.Call (.Name "set" p2) [a] [] pos2) X.env) :: starEach [] X.env := by rfl) :
    PE X (.Call (.Name "sorted" p) [.Call (.Name "set" p2) [a] [] pos2] [] pos) (TP K ct W (evSrtSt fa)) := (OW.pe_srtSt hc hg hm (OW.pst_list hc hgS hmS ha n1) n2).imp fun σ H Q h => by
  subst eK
  obtain ⟨fr, F, ρ, S, h⟩ := h
  show T X.K ct (RV X.K ct.ad) W fa σ H _
  refine Tat.dat h S fun F1 H1 ρ1 v d s1 S1 r1 h => ?_
  obtain ⟨r0, ρ', e0, q⟩ := h
  cases d <;> try (cases e0; done)
  rename_i xs
  cases e1 : D.ints xs with
  | none => rw [show (match D.lst xs with | .lst xs => (match D.ints xs with | some ns => if ns.length ≤ 60 then pur (.c (.lst ((srtI ns).map .int))) else fai | none => fai) | _ => (fai : PL.M Rv)) = fai by dsimp only; rw [e1]] at e0; cases e0
  | some ns =>
    rw [show (match D.lst xs with | .lst xs => (match D.ints xs with | some ns => if ns.length ≤ 60 then pur (.c (.lst ((srtI ns).map .int))) else fai | none => fai) | _ => (fai : PL.M Rv)) = (if ns.length ≤ 60 then pur (.c (.lst ((srtI ns).map .int))) else fai) by dsimp only; rw [e1]] at e0
    by_cases hl : ns.length ≤ 60
    · rw [if_pos hl] at e0
      cases e0
      have e1 := ints_of e1
      subst e1
      cases r1 with
      | lst h1 h2 =>
        have := h2.ints
        subst this
        refine ⟨_, ns, rfl, SqL.of (S1.fh _ _ h1), hl, hl, fun b ms hb asc mem => ?_⟩
        have e2 : ms = srtI ns := lt_uniq asc (srtI_asc ns) fun k => (mem k).trans (srtI_mem k ns).symm
        rw [e2]
        exact q _ F1 _ (Same.refl _) (S1.newC hb) ⟨b, rfl, S1.fresh hb ⟨_, upd_same, rps_i _⟩⟩
    · rw [if_neg hl] at e0
      cases e0
/-! ### a global that is a tuple of constants -/
def KTup (K : PySem.W.Frag) (a : Addr) (xs : List V) : Prop := ∃ (o : Obj) (its : Array Value) (n : Nat), K.lookup a = some o ∧ o.cls = .type "tuple" ∧ o.data = .seq its n ∧ its.size ≤ sizeLine ∧ Vals xs its.toList
def cstV : D → Option V | .int i => some (.int i) | .str s => some (.str s) | .bl b => some (.bl b) | .non => some .non | _ => none
def cstVs : List D → Option (List V) | [] => some [] | d :: ds => (cstV d).bind fun v => (cstVs ds).map (v :: ·)
theorem rps_cst : ∀ {ds : List D} {xs : List V}, cstVs ds = some xs → Rps K ad F xs ds
  | [], xs, h => by cases h; exact .nil
  | d :: ds, xs, h => by
    unfold cstVs at h
    cases e : cstV d with
    | none => (rw [e] at h); cases h
    | some v =>
      rw [e] at h
      obtain ⟨ys, e2, rfl⟩ := map_some (show (cstVs ds).map (v :: ·) = some xs from h)
      refine .cons ?_ (rps_cst e2)
      cases d <;> cases e
      · exact .non
      · exact .bl _
      · exact .int _
      · exact .str _
theorem pp_gT {X : Cx} {x : Str} {pos : Pos} {ds : List D} {xs : List V} (eK : X.K = K) (hg : Gl X x) (h : ∃ a, X.mg x = some (.ref a) ∧ KTup X.K a xs) (hd : cstVs ds = some xs := by rfl) (hdb : (x == ("__debug__" : Str)) = false := by decide) : PE X (.Name x pos) (TP K ct W (vD (.tup ds))) := by
  subst eK
  obtain ⟨a, hm, ht⟩ := h
  refine (C8.pe_gc (v := .ref a) hg ⟨_, hm, rfl⟩ hdb).imp fun σ H Q h => ?_
  obtain ⟨fr, F, ρ, S, r0, ρ', e, q⟩ := h
  cases e
  exact q (.ref a) F H (Same.refl _) S (Rp.tup (.inr ht) (rps_cst hd))
/-! ### o(..), o an own object with __call__ -/
section
variable {X : Cx} {CX : CXT} {k : Nat} {f : Addr} {fd : FuncData} {ps : List Str} {x : Str} {p pos : Pos} {e : Expr} {es : List Expr} {n : Nat} {G : Fn} {as : List AE}
end
end PL
end
section
namespace SCS
open PySem PySem.Spec PyProof.Rows L2
/-! sorted(a set of ints), any number of them -/
section
variable {w : World} {P : Program} {A : Around} {s : Shared} {E : Value → Shared → Prop} {a : Addr} {S : Int → Bool} {n : Nat} {Q : Value → Shared → Prop}
end
section
variable {X : Cx}
def rSrtI (w : World) : List V → Hp → VK → Prop := fun vs H Q => ∃ (a : Addr) (S : Int → Bool) (n : Nat), vs = [V.ref a] ∧ H a = some (SetO w a S n) ∧ n < scanBound ∧ ∀ (ns : List Int) (p : Addr), ns.Pairwise (· < ·) → (∀ k, k ∈ ns ↔ S k = true) → H p = none → Q (.ref p) (upd H p (.lst (ns.map V.int)))
end
end SCS
end
section
namespace SC2
open PySem PySem.Spec PyProof.Rows L2
/-! {x for a in p if .. for b in q if ..}, x an int -/
abbrev two (x a p : Expr) (fs : List Expr) (b q : Expr) (gs : List Expr) (sc : Scope) (w : Pos) : Expr := .SetComp x [⟨a, p, fs, 0⟩, ⟨b, q, gs, 0⟩] sc w
/-- a loop over J from τ: body is what a turn does whose tests hold; out: what is true behind it -/
def Go (J : It) (g : TG) (tt : TT) (vs : List Nat) (τ : L2.St) (body : L2.St → Hp → (Hp → Prop) → Prop) (out : Hp → Prop) (G0 : Hp) : Prop := ∃ W : Nat → Nat → Hp → Prop, (∃ m, W 0 m G0) ∧ ∀ i m G, W i m G → (J.stop i G ∧ out G) ∨ (J.go i G ∧ ∃ N : Hp → Prop, (∀ G', N G' → ∃ m', m' < m ∧ W (i + 1) m' G') ∧
  ∀ u G', J.yld i G u G' → g u (wipe τ vs) G' fun τ2 G2 => wipe τ2 vs = wipe τ vs ∧ tt τ2 G2 fun yes G3 => if yes = true then body τ2 G3 N else N G3)
def AddTo (w : World) (D : Addr) (y : V) (G : Hp) (N : Hp → Prop) : Prop := ∃ (k : Int) (S : Int → Bool) (n : Nat), y = .int k ∧ G D = some (SetO w D S n) ∧ n + 1 < scanBound ∧ N (upd G D (SetO w D (fun j => S j || decide (j = k)) (if S k = true then n else n + 1)))
def tSc2 (w : World) (wi : TI) (g : TG) (tt : TT) (wi1 : TI) (g1 : TG) (tt1 : TT) (te : TE) (vs vs1 : List Nat) : TE := fun σ H Q => wi σ H fun J H1 => ∀ D, H1 D = none →
  Go J g tt vs σ (fun τ G N => wi1 τ G fun J1 G1 => Go J1 g1 tt1 vs1 τ (fun τ1 G2 N1 => te τ1 G2 fun y G3 => AddTo w D y G3 N1) N G1) (fun G => Q (.ref D) G) (upd H1 D (SetO w D (fun _ => false) 0))
section
variable {Y : Cx} {pins : List (Addr × Obj)} {τ : L2.St} {G : Hp} {z : Shared} {tg : Expr} {J : It} {fp : List Addr} {it D : Addr} {tn : Nat → Heap → Prop} {g : TG} {tt : TT} {vs : List Nat} {fs : List Expr}
/-- one loop: where it stands, how it goes on -/
structure Here (Y : Cx) (pins : List (Addr × Obj)) (τ : L2.St) (tn : Nat → Heap → Prop) (fp : List Addr) (W : Nat → Nat → Hp → Prop) (m : Nat) (z : Shared) (i : Nat) (G : Hp) : Prop where
  inv : Inv Y pins τ G z
  st : tn i z.heap
  dark : ∀ b ∈ fp, G b = none
  w : W i m G
theorem Here.feet {W : Nat → Nat → Hp → Prop} {m i : Nat} (h : Here Y pins τ tn fp W m z i G) {G0 : Hp} (f : ∀ b ∈ fp, FpOk Y pins G0 b) : ∀ b ∈ fp, FpOk Y pins G b := fun b hb => ⟨h.dark b hb, (f b hb).2⟩
/-- a turn's item is there and stored, its tests are done -/
theorem item {W : Nat → Nat → Hp → Prop} {m i : Nat} {body : L2.St → Hp → (Hp → Prop) → Prop} {G0 : Hp} {R : Option Value → Shared → Prop} {no : Value → Shared → Prop} (calm : Y.calm = true) (T : Turn Y.prog Y.w Y.K tg J fp it tn) (f : ∀ b ∈ fp, FpOk Y pins G0 b) (pg : PG Y tg g) (pt : PTs Y fs tt) (hx : Y.xe = fun _ _ => False)
    (h : Here Y pins (wipe τ vs) tn fp W m z i G) (go : J.go i G) {N : Hp → Prop} (next : ∀ G', N G' → ∃ m', m' < m ∧ W (i + 1) m' G') (step : ∀ u G', J.yld i G u G' → g u (wipe τ vs) G' fun τ2 G2 => wipe τ2 vs = wipe τ vs ∧ tt τ2 G2 fun yes G3 => if yes = true then body τ2 G3 N else N G3)
    (k : ∀ u z1, wpAny (model Y.prog Y.w) Y.A (letOwnedTupleGo tg (.ref it) u) (fun _ z2 => wpAny (model Y.prog Y.w) Y.A (assign tg Y.env u) (fun _ z3 => wpAny (model Y.prog Y.w) Y.A (forIn fs true fun c r => if r = true then do let ok ← isTrue c Y.env (eval c Y.env); pure (ForInStep.yield ok) else pure (ForInStep.yield r)) (fun yes z4 =>
        ∃ (zs : Shared) (τ2 : L2.St) (G2 G3 : Hp), (∀ b ∈ fp, ∃ o, zs.heap.get? b = some o) ∧ (∀ h', (∀ b ∈ fp, ∀ o, zs.heap.get? b = some o → h'.get? b = some o) → tn (i + 1) h') ∧ wipe τ2 vs = wipe τ vs ∧ Inv Y (pins ++ pinsAt fp zs.heap) τ2 G3 z4 ∧ (if yes = true then body τ2 G3 N else N G3)) no z3) no z2) no z1 → R (some u) z1) : wpAny (model Y.prog Y.w) Y.A (pyNext (.ref it)) R no z := by
  have none' : ∀ {e : Value} {y : Shared} {P : Prop}, Y.xe e y → P := fun {e y P} h => (show False from by rw [hx] at h; exact h).elim
  refine wpAny_mono (T.item Y rfl rfl rfl calm i pins z _ G (fun _ _ => False) h.inv (h.feet f) h.st go) ?_ fun _ _ n => n.elim
  rintro _ z1 ⟨u, rfl, h1⟩
  refine k u z1 (wpAny_mono h1 ?_ fun _ _ n => n.elim)
  rintro _ z2 ⟨x, G2, I2, r2, y2, st2, d2⟩
  have I3 := I2.pinned (fun b hb => ⟨d2 b hb, (f b hb).2⟩) (T.obj _ _ st2)
  refine wpAny_mono (pg.run _ z2 _ G2 x u _ I3 r2 (step x G2 y2)) ?_ fun _ _ n => none' n
  rintro _ z3 ⟨τ2, G4, I4, ew, q4⟩
  refine wpAny_mono (pt.run _ z3 τ2 G4 _ I4 q4) ?_ fun _ _ n => none' n
  rintro yes z4 ⟨G5, I5, q5⟩
  exact ⟨z2, τ2, G4, G5, fun b hb => (T.obj _ _ st2 b hb).imp fun _ e => e.1, fun h' kp => T.keep _ _ _ st2 kp, ew, I5, q5⟩
end
/-- the parts, wherever the block begins -/
structure Sides (X : Cx) (sc : Scope) (x a : Expr) (fs : List Expr) (b q : Expr) (gs : List Expr) (g : TG) (tt : TT) (wi1 : TI) (g1 : TG) (tt1 : TT) (te : TE) : Prop where
  hg : ∀ t G C cl fp, PG (X.blk t G sc (compEnvC sc cl C X.env) fp) a g
  ht : ∀ t G C cl fp, PTs (X.blk t G sc (compEnvC sc cl C X.env) fp) fs tt
  hi : ∀ t G C cl fp, PI (X.blk t G sc (compEnvC sc cl C X.env) fp) b q wi1
  hg1 : ∀ t G C cl fp, PG (X.blk t G sc (compEnvC sc cl C X.env) fp) b g1
  ht1 : ∀ t G C cl fp, PTs (X.blk t G sc (compEnvC sc cl C X.env) fp) gs tt1
  he : ∀ t G C cl fp, PE (X.blk t G sc (compEnvC sc cl C X.env) fp) x te
section
variable {X : Cx} {H : Hp} {pins : List (Addr × Obj)} {s : Shared} {σ : L2.St}
end
end SC2
end
section
namespace PL
open PySem PySem.Spec PyProof.Rows L2 SC2
variable {K : PySem.W.Frag} {ct : CT} {fr : Fr} {F H : Hp} {σ : L2.St} {ρ : List Sl} {W : WX} {X : Cx}
/-! ### r = range(a, b), then ys = sorted({e for x in xs if .. for y in r if ..}) -/
/-- the walk over a range that stands somewhere -/
def iRngO (te : TE) : TI := fun σ H R => te σ H fun x H1 => ∃ (p : Addr) (lo hi : Int), x = .ref p ∧ H1 p = some (.rng lo hi) ∧ (-(2 ^ 62) ≤ lo ∧ lo < 2 ^ 62 ∧ -(2 ^ 62) ≤ hi ∧ hi < 2 ^ 62) ∧ R (Itr lo (hi - lo).toNat) H1
def tRngV (ta : TA) : TE := fun σ H Q => ta σ H fun vs H1 => ∃ i j : Int, vs = [.int i, .int j] ∧ ∀ q, H1 q = none → Q (.ref q) (upd H1 q (.rng i j))
/-- the protection ends, what was protected is forgotten -/
theorem Rel.bare {D : Addr} {o : HO} (hP : fr.P D = none) (S : Rel K ct (fr.prot D o) F H σ ρ) : Rel K ct fr F H σ ρ := by
  have low : ∀ {p : Addr}, (fr.prot D o).P p = none → fr.P p = none := fun {p} z => by
    have z : upd fr.P D o p = none := z
    by_cases q : p = D
    · rw [q]; exact hP
    · exact (upd_ne q).symm.trans z
  refine ⟨S.len, S.fh, fun i s e => ?_, S.dis, fun b u e => S.keep b u ((upd_ne fun z => by rw [z, hP] at e; cases e).trans e), fun b hb h0 => ?_, S.pcs⟩
  · obtain ⟨u, g1, g2⟩ := S.slot i s e
    refine ⟨u, g1, ?_⟩
    cases s with
    | cel k c => obtain ⟨p, a1, a2, a3, rest⟩ := g2; exact ⟨p, a1, a2, low a3, rest⟩
    | un => trivial
    | dat d => exact g2
    | exn c pl => exact g2
  · have q : b ≠ D := fun z => hb (z ▸ hP)
    exact S.fro b (fun z => hb ((upd_ne q).symm.trans z)) ((if_neg q).trans h0)
def evSc2 (vs : List Nat) (it : M (List D)) (tg : Tg) (c : M Bool) (lo hi : Int) (vs1 : List Nat) (tg1 : Tg) (c1 : M Bool) (e : Ev) : Ev := bnd (evLc2 vs it tg c (pur (rngD lo (hi - lo).toNat)) vs1 tg1 c1 e) fun r => match r with
  | .c (.lst xs) => (match D.ints xs with | some ns => if ns.length < 4000 then pur (.c (.lst ((srtI ns).map .int))) else fai | none => fai)
  | _ => fai
def evRng2 (i : Nat) (fa fb : Ev) (k : Int → Int → M Fl) : M Fl := bnd (dat fa) fun x => bnd (dat fb) fun y => match x, y with
  | .int lo, .int hi => if -(2 ^ 62) ≤ lo ∧ lo < 2 ^ 62 ∧ -(2 ^ 62) ≤ hi ∧ hi < 2 ^ 62 then (fun ρ => match ρ[i]? with
    | some (.cel .par _) => none
    | some _ => k lo hi (ρ.set i .un)
    | none => none) else fai
  | _, _ => fai
/-- what the set holds, and how many they are at most -/
def InSet (Sx : Int → Bool) (n : Nat) (acc : List D) : Prop := (∀ k, Sx k = true ↔ D.int k ∈ acc) ∧ n ≤ acc.length
theorem Sat.seq {D : Ends} {s t : M Fl} (h : Sat K ct W D fr F ρ (evSeq s t)) : Sat K ct W { D with nx := TSt K ct W t D } fr F ρ s := by
  obtain ⟨r, ρ', e, q⟩ := h
  unfold evSeq at e
  cases es : s ρ with
  | none => rw [es] at e; cases e
  | some x =>
    obtain ⟨r1, ρ1⟩ := x
    rw [es] at e
    refine ⟨r1, ρ1, es, ?_⟩
    cases r1 with
    | er c pl => cases e; exact q
    | ok fl =>
      cases fl with
      | nx => exact fun σ1 F1 H1 s1 S1 => ⟨fr, F1, ρ1, S1, Sat.mono ⟨r, ρ', e, q⟩ s1⟩
      | bk => cases e; exact q
      | ct => cases e; exact q
      | rt x => cases e; exact q
theorem Sat.asgT {D : Ends} {j : Nat} {m : Ev} (h : Sat K ct W D fr F ρ (evAsg j m)) : Tat K ct (RV K ct.ad) W fr F ρ m σ fun y H2 => D.nx (σ.set j (some y)) H2 := by
  obtain ⟨r, ρ', e, q⟩ := h
  have fin : ∀ {d : PL.D} {ρ1 : List Sl}, PL.setD j d ρ1 = some (r, ρ') → ∀ v F' H', Same F F' → Rel K ct fr F' H' σ ρ1 → Rp K ct.ad F' v d → D.nx (σ.set j (some v)) H' := fun {d ρ1} e v F' H' s' S' r' => by
    have e9 := e
    unfold PL.setD at e
    split at e
    · cases e
    · cases e
      exact q _ F' H' s' (setD_ok e9 S' r')
    · cases e
  unfold evAsg PL.bnd PL.dat PL.bnd at e
  cases em : m ρ with
  | none => rw [em] at e; cases e
  | some x =>
    obtain ⟨r1, ρ1⟩ := x
    rw [em] at e
    refine ⟨r1, ρ1, em, ?_⟩
    cases r1 with
    | er c pl => cases e; exact fun d F' H' s' S' pr => q σ d F' H' s' S' pr
    | ok a =>
      cases a with
      | d d => exact fun v F' H' s' S' r' => fin e v F' H' s' S' r'
      | c c =>
        refine fun v F' H' s' S' ⟨a, ev, fp⟩ => ?_
        subst ev
        cases ef : c.froz with
        | none =>
          have e : PL.bnd (PL.opt c.froz) (fun d => PL.setD j d) ρ1 = some (r, ρ') := e
          rw [ef] at e
          cases e
        | some d =>
          have e : PL.bnd (PL.opt c.froz) (fun d => PL.setD j d) ρ1 = some (r, ρ') := e
          rw [ef] at e
          obtain ⟨F2, s2, rp, S2⟩ := fp.frz S' ef
          exact fin e _ F2 H' (s'.trans s2) S2 rp
/-- a new list, or data: the slot keeps which -/
def evAsgX (i : Nat) (e : Ev) : M Fl := bnd e fun r => match r with | .c c => PL.setC i c | .d d => PL.setD i d
end PL
end
section
namespace PL
open PySem PySem.Spec PyProof.Rows L2
variable {K : PySem.W.Frag} {ct : CT} {W : WX} {X : Cx}
/-! ### methods of texts that only read: find, rfind -/
variable (K ct) in
def OSm (r : V → List V → Hp → VK → Prop) (g : Str → List D → Option D) : Prop := ∀ {F H : Hp} {a : Str} {vs : List V} {ds : List D} {z : D} {Q : VK}, Rps K ct.ad F vs ds → g a ds = some z → (∀ v, Rp K ct.ad F v z → Q v H) → r (.str a) vs H Q
def evTxm (g : Str → List D → Option D) (o : Ev) (es : List DE) : Ev := bnd (dat o) fun x => match x with
  | .str a => bnd (evDs es) fun ds => opt ((g a ds).map Rv.d)
  | _ => fai
def gFind1 (a : Str) : List D → Option D | [.str b] => some (.int (Txt.find a b)) | _ => none
def gFind3 (a : Str) : List D → Option D | [.str b, .int i] => some (.int (Txt.find3 a b i)) | _ => none
def gRfind4 (a : Str) : List D → Option D | [.str b, .int i, .int j] => some (.int (Txt.rfindIn a b i j)) | _ => none
end PL
end
section
namespace PL
open PySem PySem.Spec PyProof.Rows L2
variable {K : PySem.W.Frag} {ad : Cl → Addr} {ct : CT}
variable {fr : Fr} {F F' H H' : Hp} {σ : L2.St} {ρ : List Sl} {W : WX}
/-! ### a look that lets an exception out and gives back a new object -/
def Rv.lfreeO : Rv → Bool
  | .d x => x.lfree
  | .c (.lst xs) => D.lfrees xs
  | .c (.obj _ kvs) => D.lfrees (kvs.map (·.2))
  | _ => false
def plfree : Option D → Bool
  | none => true
  | some d => d.lfree
def lookE (j : Nat) (m : Ev) : Ev := fun ρ => match ρ[j]? with
  | some (.cel _ (.lst xs)) => (match m (lkS j xs 0 ρ) with
    | some (.ok r, _) => if Rv.lfreeO r then some (.ok r, ρ) else none
    | some (.er c pl, _) => if plfree pl then some (.er c pl, ρ) else none
    | none => none)
  | _ => none
end PL
end
section
namespace PL
open PySem PySem.Spec PyProof.Rows L2
variable {K : PySem.W.Frag} {ct : CT} {W : WX} {X : Cx} {σ : L2.St} {H : Hp}
/-! an operator of own objects that may raise -/
def evOwn2S (n : Nat) (G : Fn) (c : Cl) (a b : Ev) : Ev := bnd (dat a) fun d => match d with
  | .obj c' xs => if c' = c then bnd (dat b) fun d2 => (match d2 with
      | .obj c2 ys => if c2 = c then callG n G [.d (.obj c xs), .d (.obj c ys)] else fai
      | _ => fai) else fai
  | _ => fai
section
variable {CX : CXT} {k : Nat} {C f : Addr} {fd : FuncData} {ps : List Str} {sp : Sp} {E : L2.St → XK} {ta tb : TE} {a b : Expr} {pos : Pos}
end
section
variable {k n : Nat} {f : Addr} {fd : FuncData} {ps : List Str} {G : Fn} {pos : Pos} {fa fb : Ev}
end
end PL
end
section
namespace PL
open PySem PySem.Spec PyProof.Rows L2
/-! ### what a pure term gives: K behind its value, X behind its exception -/
abbrev XC := Cl → Option D → List Sl → Prop
def Y0 {α : Type} (m : M α) (ρ : List Sl) (K : α → List Sl → Prop) (X : XC) : Prop := match m ρ with
  | some (.ok a, ρ1) => K a ρ1
  | some (.er c pl, ρ1) => X c pl ρ1
  | none => False
abbrev NX : XC := fun _ _ _ => False
section
variable {α β : Type} {ρ : List Sl} {X X' : XC}
theorem Y0.mono {m : M α} {K K' : α → List Sl → Prop} (h : Y0 m ρ K X) (k : ∀ a ρ1, K a ρ1 → K' a ρ1) (x : ∀ c pl ρ1, X c pl ρ1 → X' c pl ρ1) : Y0 m ρ K' X' := by
  unfold Y0 at h ⊢
  split
  · rename_i e; rw [e] at h; exact k _ _ h
  · rename_i e; rw [e] at h; exact x _ _ _ h
  · rename_i e; rw [e] at h; exact h
theorem Y0.mk {m : M α} {K : α → List Sl → Prop} (h : Y0 m ρ K NX) : ∃ a ρ1, m ρ = some (.ok a, ρ1) ∧ K a ρ1 := by
  unfold Y0 at h
  split at h
  · exact ⟨_, _, ‹_›, h⟩
  · exact h.elim
  · exact h.elim
theorem Y0.of {m : M α} {K : α → List Sl → Prop} {a : α} {ρ1 : List Sl} (e : m ρ = some (.ok a, ρ1)) (h : K a ρ1) : Y0 m ρ K X := by unfold Y0; rw [e]; exact h
variable {K : α → List Sl → Prop}
theorem Y0_pur {a : α} : Y0 (pur a) ρ K X = K a ρ := id rfl
theorem Y0_fai : Y0 (fai : M α) ρ K X = False := id rfl
theorem Y0_bnd {m : M β} {k : β → M α} : Y0 (bnd m k) ρ K X = Y0 m ρ (fun a ρ1 => Y0 (k a) ρ1 K X) X := by
  unfold Y0 bnd
  cases m ρ with
  | none => rfl
  | some x => obtain ⟨r, ρ1⟩ := x; cases r <;> rfl
theorem Y0_opt {o : Option α} : Y0 (opt o) ρ K X = ∃ a, o = some a ∧ K a ρ := by
  cases o with
  | none => exact propext ⟨fun h => h.elim, fun ⟨_, e, _⟩ => by cases e⟩
  | some a => exact propext ⟨fun h => ⟨a, rfl, h⟩, fun ⟨_, e, h⟩ => by cases e; exact h⟩
theorem Y0_noEr {m : M α} : Y0 (noEr m) ρ K X = Y0 m ρ K NX := by
  unfold Y0 noEr
  cases m ρ with
  | none => rfl
  | some x => obtain ⟨r, ρ1⟩ := x; cases r <;> rfl
theorem Y0_if {c : Prop} [Decidable c] {a b : M α} : Y0 (if c then a else b) ρ K X = if c then Y0 a ρ K X else Y0 b ρ K X := by split <;> rfl
theorem ex_if {γ : Type} {c : Prop} [Decidable c] {a : γ} {P : γ → Prop} : (∃ z, (if c then some a else none) = some z ∧ P z) = (c ∧ P a) := by
  by_cases h : c
  · rw [if_pos h]; exact propext ⟨fun ⟨z, e, p⟩ => by cases e; exact ⟨h, p⟩, fun ⟨_, p⟩ => ⟨a, rfl, p⟩⟩
  · rw [if_neg h]; exact propext ⟨fun ⟨z, e, _⟩ => (by cases e), fun z => (h z.1).elim⟩
theorem ex_so {γ : Type} {a : γ} {P : γ → Prop} : (∃ z, some a = some z ∧ P z) = P a := propext ⟨fun ⟨z, e, p⟩ => by cases e; exact p, fun p => ⟨a, rfl, p⟩⟩
end
section
variable {ρ : List Sl} {X : XC} {K : Rv → List Sl → Prop} {KD : D → List Sl → Prop} {KB : Bool → List Sl → Prop} {KF : Fl → List Sl → Prop} {m a b c : Ev} {s t : M Fl} {u v : M Bool} {i j n : Nat}
theorem Y0_vD {d : D} : Y0 (vD d) ρ K X = K (.d d) ρ := id rfl
theorem Y0_evV : Y0 (evV i) ρ K X = match ρ[i]? with | some (.dat d) => K (.d d) ρ | _ => False := by
  unfold Y0 evV
  cases ρ[i]? with
  | none => rfl
  | some s => cases s <;> rfl
theorem Y0_evF : Y0 (evF i) ρ K X = match ρ[i]? with | some (.dat d) => K (.d d) ρ | some (.cel .own c) => (match c.froz with | some d => K (.d d) (ρ.set i (.dat d)) | none => False) | _ => False := by
  unfold Y0 evF
  cases ρ[i]? with
  | none => rfl
  | some s =>
    cases s with
    | cel k c => cases k with
      | par => rfl
      | own => dsimp only; cases c.froz <;> rfl
    | _ => rfl
theorem Y0_evM : Y0 (evM i) ρ K X = match ρ[i]? with | some (.dat d) => K (.d d) ρ | some (.cel .own c) => K (.c c) (ρ.set i .un) | _ => False := by
  unfold Y0 evM
  cases ρ[i]? with
  | none => rfl
  | some s =>
    cases s with
    | cel k c => cases k <;> rfl
    | _ => rfl
theorem Y0_dat : Y0 (dat m) ρ KD X = Y0 m ρ (fun r ρ1 => match r with | .d d => KD d ρ1 | .c c => ∃ d, c.froz = some d ∧ KD d ρ1) X := by
  unfold dat
  rw [Y0_bnd]
  congr 1
  funext r ρ1
  cases r with
  | d d => rfl
  | c c => exact Y0_opt
theorem Y0_tst : Y0 (tst m) ρ KB X = Y0 (dat m) ρ (fun d ρ1 => match d with | .bl b => KB b ρ1 | _ => False) X := by
  unfold tst
  rw [Y0_bnd]
  congr 1
  funext d ρ1
  cases d <;> rfl
theorem Y0_ev2 {g : D → D → Option D} : Y0 (ev2 g a b) ρ K X = Y0 (dat a) ρ (fun x ρ1 => Y0 (dat b) ρ1 (fun y ρ2 => ∃ z, g x y = some z ∧ K (.d z) ρ2) X) X := by
  unfold ev2
  rw [Y0_bnd]
  congr 1; funext x ρ1
  rw [Y0_bnd]
  congr 1; funext y ρ2
  rw [Y0_opt]
  exact propext ⟨fun ⟨r, e, k⟩ => by obtain ⟨z, e1, e2⟩ := map_some e; subst e2; exact ⟨z, e1, k⟩, fun ⟨z, e, k⟩ => ⟨_, by rw [e]; rfl, k⟩⟩
theorem Y0_ev2c {g : D → D → Option CC} : Y0 (ev2c g a b) ρ K X = Y0 (dat a) ρ (fun x ρ1 => Y0 (dat b) ρ1 (fun y ρ2 => ∃ z, g x y = some z ∧ K (.c z) ρ2) X) X := by
  unfold ev2c
  rw [Y0_bnd]
  congr 1; funext x ρ1
  rw [Y0_bnd]
  congr 1; funext y ρ2
  rw [Y0_opt]
  exact propext ⟨fun ⟨r, e, k⟩ => by obtain ⟨z, e1, e2⟩ := map_some e; subst e2; exact ⟨z, e1, k⟩, fun ⟨z, e, k⟩ => ⟨_, by rw [e]; rfl, k⟩⟩
theorem Y0_ev1 {g : D → Option D} : Y0 (ev1 g a) ρ K X = Y0 (dat a) ρ (fun x ρ1 => ∃ z, g x = some z ∧ K (.d z) ρ1) X := by
  unfold ev1
  rw [Y0_bnd]
  congr 1; funext x ρ1
  rw [Y0_opt]
  exact propext ⟨fun ⟨r, e, k⟩ => by obtain ⟨z, e1, e2⟩ := map_some e; subst e2; exact ⟨z, e1, k⟩, fun ⟨z, e, k⟩ => ⟨_, by rw [e]; rfl, k⟩⟩
theorem Y0_seq : Y0 (evSeq s t) ρ KF X = Y0 s ρ (fun f ρ1 => match f with | .nx => Y0 t ρ1 KF X | f => KF f ρ1) X := by
  unfold Y0 evSeq
  cases s ρ with
  | none => rfl
  | some x => obtain ⟨r, ρ1⟩ := x; cases r with
    | ok f => cases f <;> rfl
    | er c pl => rfl
theorem Y0_evIf : Y0 (evIf u s t) ρ KF X = Y0 u ρ (fun c ρ1 => if c = true then Y0 s ρ1 KF X else Y0 t ρ1 KF X) X := by
  unfold evIf
  rw [Y0_bnd]
  congr 1; funext c ρ1
  exact Y0_if
theorem Y0_tNo : Y0 (tNo u) ρ KB X = Y0 u ρ (fun c ρ1 => KB (!c) ρ1) X := by unfold tNo; rw [Y0_bnd]; rfl
theorem Y0_tAn : Y0 (tAn u v) ρ KB X = Y0 u ρ (fun c ρ1 => if c = true then Y0 v ρ1 KB X else KB false ρ1) X := by
  unfold tAn; rw [Y0_bnd]; congr 1; funext c ρ1; cases c <;> rfl
theorem Y0_tOo : Y0 (tOo u v) ρ KB X = Y0 u ρ (fun c ρ1 => if c = true then KB true ρ1 else Y0 v ρ1 KB X) X := by
  unfold tOo; rw [Y0_bnd]; congr 1; funext c ρ1; cases c <;> rfl
theorem Y0_vNo : Y0 (vNo m) ρ K X = Y0 (tst m) ρ (fun c ρ1 => K (.d (.bl (!c))) ρ1) X := by unfold vNo; rw [Y0_bnd]; rfl
theorem Y0_vAn : Y0 (vAn a b) ρ K X = Y0 (tst a) ρ (fun c ρ1 => if c = true then Y0 (dat b) ρ1 (fun d ρ2 => K (.d d) ρ2) X else K (.d (.bl false)) ρ1) X := by
  unfold vAn; rw [Y0_bnd]; congr 1; funext c ρ1; cases c
  · rfl
  · simp only [if_true]; rw [Y0_bnd]; rfl
theorem Y0_vOo : Y0 (vOo a b) ρ K X = Y0 (tst a) ρ (fun c ρ1 => if c = true then K (.d (.bl true)) ρ1 else Y0 (dat b) ρ1 (fun d ρ2 => K (.d d) ρ2) X) X := by
  unfold vOo; rw [Y0_bnd]; congr 1; funext c ρ1; cases c
  · simp only [Bool.false_eq_true, if_false]; rw [Y0_bnd]; rfl
  · rfl
theorem Y0_vIf : Y0 (vIf u a b) ρ K X = Y0 u ρ (fun c ρ1 => if c = true then Y0 a ρ1 K X else Y0 b ρ1 K X) X := by
  unfold vIf; rw [Y0_bnd]; congr 1; funext c ρ1; exact Y0_if
theorem ex_bl {o : Option D} {P : D → Prop} {Q : Bool → Prop} (h : ∀ b, P (.bl b) = Q b) (h2 : ∀ z, (∀ b, z ≠ .bl b) → P z = False) : (∃ z, o = some z ∧ P z) = ∃ b, o = some (.bl b) ∧ Q b :=
  propext ⟨fun ⟨z, e, p⟩ => by
    cases z with
    | bl b => exact ⟨b, e, by rw [← h]; exact p⟩
    | _ => rw [h2 _ (fun b q => by cases q)] at p; exact p.elim, fun ⟨b, e, p⟩ => ⟨_, e, by rw [h]; exact p⟩⟩
theorem Y0_ch2 {g g' : D → D → Option D} : Y0 (ch2 g g' a b c) ρ K X = Y0 (dat a) ρ (fun x ρ1 => Y0 (dat b) ρ1 (fun y ρ2 => ∃ z, g x y = some (.bl z) ∧ if z = true then Y0 (dat c) ρ2 (fun w ρ3 => ∃ z2, g' y w = some z2 ∧ K (.d z2) ρ3) X else K (.d (.bl false)) ρ2) X) X := by
  unfold ch2
  rw [Y0_bnd]; congr 1; funext x ρ1
  rw [Y0_bnd]; congr 1; funext y ρ2
  rw [Y0_bnd, Y0_opt]
  refine ex_bl (fun k => ?_) (fun z h => ?_)
  · cases k
    · rfl
    · dsimp only
      rw [if_pos rfl, Y0_bnd]; congr 1; funext w ρ3
      rw [Y0_opt]
      exact propext ⟨fun ⟨r, e, k⟩ => by obtain ⟨z, e1, e2⟩ := map_some e; subst e2; exact ⟨z, e1, k⟩, fun ⟨z, e, k⟩ => ⟨_, by rw [e]; rfl, k⟩⟩
  · cases z <;> first | rfl | exact absurd rfl (h _)
theorem Y0_ch3 {g g' g'' : D → D → Option D} {d : Ev} : Y0 (ch3 g g' g'' a b c d) ρ KB X = Y0 (dat a) ρ (fun x ρ1 => Y0 (dat b) ρ1 (fun y ρ2 => ∃ z, g x y = some (.bl z) ∧ if z = true then Y0 (dat c) ρ2 (fun w ρ3 => ∃ z2, g' y w = some (.bl z2) ∧ if z2 = true then Y0 (dat d) ρ3 (fun q ρ4 => ∃ z3, g'' w q = some (.bl z3) ∧ KB z3 ρ4) X else KB false ρ3) X else KB false ρ2) X) X := by
  unfold ch3
  rw [Y0_bnd]; congr 1; funext x ρ1
  rw [Y0_bnd]; congr 1; funext y ρ2
  rw [Y0_bnd, Y0_opt]
  refine ex_bl (fun k => ?_) (fun z h => ?_)
  · cases k
    · rfl
    · dsimp only
      rw [if_pos rfl, Y0_bnd]; congr 1; funext w ρ3
      rw [Y0_bnd, Y0_opt]
      refine ex_bl (fun k => ?_) (fun z h => ?_)
      · cases k
        · rfl
        · dsimp only
          rw [if_pos rfl, Y0_bnd]; congr 1; funext w ρ3
          rw [Y0_bnd, Y0_opt]
          refine ex_bl (fun k => rfl) (fun z h => ?_)
          cases z <;> first | rfl | exact absurd rfl (h _)
      · cases z <;> first | rfl | exact absurd rfl (h _)
  · cases z <;> first | rfl | exact absurd rfl (h _)
/-- a slot that may be set -/
def canSet : Sl → Bool | .cel .par _ => false | _ => true
theorem Y0_setD {d : D} : Y0 (setD i d) ρ KF X = ∃ s, ρ[i]? = some s ∧ canSet s = true ∧ KF .nx (ρ.set i (.dat d)) := by
  unfold Y0 setD
  cases ρ[i]? with
  | none => exact propext ⟨fun h => h.elim, fun ⟨_, e, _⟩ => by cases e⟩
  | some s =>
    have go : ∀ {P : Prop}, canSet s = true → (P = ∃ s', some s = some s' ∧ canSet s' = true ∧ P) := fun {P} z => propext ⟨fun h => ⟨s, rfl, z, h⟩, fun ⟨_, _, _, h⟩ => h⟩
    cases s with
    | cel k c => cases k with
      | own => exact go rfl
      | par => exact propext ⟨fun h => h.elim, fun ⟨_, e, z, _⟩ => by cases e; cases z⟩
    | _ => exact go rfl
theorem Y0_setC {d : CC} : Y0 (PL.setC i d) ρ KF X = ∃ s, ρ[i]? = some s ∧ canSet s = true ∧ KF .nx (ρ.set i (.cel .own d)) := by
  unfold Y0 PL.setC
  cases ρ[i]? with
  | none => exact propext ⟨fun h => h.elim, fun ⟨_, e, _⟩ => by cases e⟩
  | some s =>
    have go : ∀ {P : Prop}, canSet s = true → (P = ∃ s', some s = some s' ∧ canSet s' = true ∧ P) := fun {P} z => propext ⟨fun h => ⟨s, rfl, z, h⟩, fun ⟨_, _, _, h⟩ => h⟩
    cases s with
    | cel k c => cases k with
      | own => exact go rfl
      | par => exact propext ⟨fun h => h.elim, fun ⟨_, e, z, _⟩ => by cases e; cases z⟩
    | _ => exact go rfl
theorem Y0_asg : Y0 (evAsg i m) ρ KF X = Y0 (dat m) ρ (fun d ρ1 => Y0 (setD i d) ρ1 KF X) X := by unfold evAsg; rw [Y0_bnd]
theorem Y0_asgC : Y0 (evAsgC i m) ρ KF X = Y0 m ρ (fun r ρ1 => match r with | .c c => Y0 (PL.setC i c) ρ1 KF X | .d _ => False) X := by
  unfold evAsgC; rw [Y0_bnd]; congr 1; funext r ρ1; cases r <;> rfl
theorem Y0_ret : Y0 (evRet m) ρ KF X = Y0 m ρ (fun r ρ1 => KF (.rt r) ρ1) X := by unfold evRet; rw [Y0_bnd]; rfl
theorem Y0_ex : Y0 (evEx m) ρ KF X = Y0 m ρ (fun _ ρ1 => KF .nx ρ1) X := by unfold evEx; rw [Y0_bnd]; rfl
theorem Y0_nx : Y0 evNx ρ KF X = KF .nx ρ := id rfl
theorem Y0_lookE {m : Ev} {K : Rv → List Sl → Prop} : Y0 (lookE j m) ρ K X = match ρ[j]? with | some (.cel _ (.lst xs)) => Y0 m (lkS j xs 0 ρ) (fun r _ => Rv.lfreeO r = true ∧ K r ρ) (fun c pl _ => plfree pl = true ∧ X c pl ρ) | _ => False := by
  unfold Y0 lookE
  cases ρ[j]? with
  | none => rfl
  | some s => cases s with
    | cel k c => cases c with
      | lst xs =>
        dsimp only
        cases m (lkS j xs 0 ρ) with
        | none => rfl
        | some x =>
          obtain ⟨r, ρ1⟩ := x
          cases r with
          | ok a => dsimp only; cases e : Rv.lfreeO a <;> simp
          | er c pl => dsimp only; cases e : plfree pl <;> simp
      | _ => rfl
    | _ => rfl
theorem Y0_look {α : Type} {ok : α → Bool} {m : M α} {K : α → List Sl → Prop} : Y0 (look j ok m) ρ K X = match ρ[j]? with | some (.cel _ (.lst xs)) => Y0 m (lkS j xs 0 ρ) (fun r _ => ok r = true ∧ K r ρ) NX | _ => False := by
  unfold Y0 look
  cases ρ[j]? with
  | none => rfl
  | some s => cases s with
    | cel k c => cases c with
      | lst xs =>
        dsimp only
        cases m (lkS j xs 0 ρ) with
        | none => rfl
        | some x => obtain ⟨r, ρ1⟩ := x; cases r with
          | ok a => dsimp only; cases ok a <;> simp
          | er c pl => rfl
      | _ => rfl
    | _ => rfl
variable {KS : List D → List Sl → Prop} {KA : List Ar → List Sl → Prop} {es : List DE} {as : List AE}
theorem Y0_ds0 : Y0 (evDs []) ρ KS X = KS [] ρ := id rfl
theorem Y0_dsE : Y0 (evDs (.e m :: es)) ρ KS X = Y0 (dat m) ρ (fun d ρ1 => Y0 (evDs es) ρ1 (fun ds ρ2 => KS (d :: ds) ρ2) X) X := by
  show Y0 (bnd _ _) ρ KS X = _
  rw [Y0_bnd]; congr 1; funext d ρ1; rw [Y0_bnd]; rfl
theorem Y0_dsS : Y0 (evDs (.s m :: es)) ρ KS X = Y0 (dat m) ρ (fun d ρ1 => ∃ xs, d.items = some xs ∧ Y0 (evDs es) ρ1 (fun ds ρ2 => KS (xs ++ ds) ρ2) X) X := by
  show Y0 (bnd _ _) ρ KS X = _
  rw [Y0_bnd]; congr 1; funext d ρ1; rw [Y0_bnd, Y0_opt]; congr 1; funext xs; rw [Y0_bnd]; rfl
theorem Y0_B {g : List D → Option D} : Y0 (evB g es) ρ K X = Y0 (evDs es) ρ (fun ds ρ1 => ∃ z, g ds = some z ∧ K (.d z) ρ1) X := by
  unfold evB
  rw [Y0_bnd]; congr 1; funext ds ρ1; rw [Y0_opt]
  exact propext ⟨fun ⟨r, e, k⟩ => by obtain ⟨z, e1, e2⟩ := map_some e; subst e2; exact ⟨z, e1, k⟩, fun ⟨z, e, k⟩ => ⟨_, by rw [e]; rfl, k⟩⟩
theorem Y0_Bc {g : List D → Option CC} : Y0 (evBc g es) ρ K X = Y0 (evDs es) ρ (fun ds ρ1 => ∃ z, g ds = some z ∧ K (.c z) ρ1) X := by
  unfold evBc
  rw [Y0_bnd]; congr 1; funext ds ρ1; rw [Y0_opt]
  exact propext ⟨fun ⟨r, e, k⟩ => by obtain ⟨z, e1, e2⟩ := map_some e; subst e2; exact ⟨z, e1, k⟩, fun ⟨z, e, k⟩ => ⟨_, by rw [e]; rfl, k⟩⟩
theorem Y0_tup : Y0 (evTup es) ρ K X = Y0 (evDs es) ρ (fun ds ρ1 => ds.length ≤ 16777216 ∧ K (.d (.tup ds)) ρ1) X := by
  unfold evTup
  rw [Y0_bnd]; congr 1; funext ds ρ1
  rw [Y0_if]
  by_cases h : ds.length ≤ 16777216 <;> simp [h, Y0_vD, Y0_fai]
theorem Y0_lst : Y0 (evLst es) ρ K X = Y0 (evDs es) ρ (fun ds ρ1 => ds.length ≤ 16777216 ∧ K (.c (.lst ds)) ρ1) X := by
  unfold evLst
  rw [Y0_bnd]; congr 1; funext ds ρ1
  rw [Y0_if]
  by_cases h : ds.length ≤ 16777216 <;> simp [h, Y0_pur, Y0_fai]
theorem Y0_isL {P : Rv → List Sl → Prop} : Y0 (isL j) ρ P X = match ρ[j]? with | some (.cel _ (.lst _)) => P (.d .non) ρ | _ => False := by
  unfold Y0 isL
  cases ρ[j]? with
  | none => rfl
  | some s => cases s with
    | cel k c => cases c <;> rfl
    | _ => rfl
theorem Y0_modL {f : List D → Option (D × List D)} : Y0 (modL j f) ρ K X = match ρ[j]? with | some (.cel k (.lst xs)) => ∃ p, f xs = some p ∧ K (.d p.1) (ρ.set j (.cel k (.lst p.2))) | _ => False := by
  unfold Y0 modL
  cases ρ[j]? with
  | none => rfl
  | some s => cases s with
    | cel k c => cases c with
      | lst xs =>
        dsimp only
        cases f xs with
        | none => exact propext ⟨fun h => h.elim, fun ⟨_, e, _⟩ => by cases e⟩
        | some p => exact propext ⟨fun h => ⟨p, rfl, h⟩, fun ⟨_, e, h⟩ => by cases e; exact h⟩
      | _ => rfl
    | _ => rfl
theorem Y0_bmL {f : List D → List D → Option (D × List D)} : Y0 (evBmL j f es) ρ K X = match ρ[j]? with
    | some (.cel _ (.lst _)) => Y0 (evDs es) ρ (fun ds ρ1 => match ρ1[j]? with | some (.cel k (.lst xs)) => ∃ p, f xs ds = some p ∧ K (.d p.1) (ρ1.set j (.cel k (.lst p.2))) | _ => False) X
    | _ => False := by
  unfold evBmL
  rw [Y0_bnd, Y0_isL]
  simp only [Y0_bnd, Y0_modL]
theorem Y0_LstRg {a b : Ev} : Y0 (evLstRg a b) ρ K X = Y0 (dat a) ρ (fun x ρ1 => Y0 (dat b) ρ1 (fun y ρ2 => match x, y with
    | .int i, .int j => (-(2 ^ 62) ≤ i ∧ i < 2 ^ 62 ∧ -(2 ^ 62) ≤ j ∧ j < 2 ^ 62 ∧ (j - i).toNat ≤ 2 ^ 24) ∧ K (.c (.lst (rngD i (j - i).toNat))) ρ2
    | _, _ => False) X) X := by
  unfold evLstRg
  rw [Y0_bnd]; congr 1; funext x ρ1
  rw [Y0_bnd]; congr 1; funext y ρ2
  cases x <;> try rfl
  rename_i i
  cases y <;> try rfl
  rename_i j
  dsimp only
  split
  · rename_i h
    exact propext ⟨fun k => ⟨h, k⟩, fun k => k.2⟩
  · rename_i h
    exact propext ⟨fun k => k.elim, fun k => absurd k.1 h⟩
theorem Y0_SrtSt {a : Ev} : Y0 (evSrtSt a) ρ K X = Y0 (dat a) ρ (fun x ρ1 => match x with
    | .lst xs => ∃ ns, D.ints xs = some ns ∧ ns.length ≤ 60 ∧ K (.c (.lst ((srtI ns).map .int))) ρ1
    | _ => False) X := by
  unfold evSrtSt
  rw [Y0_bnd]; congr 1; funext x ρ1
  cases x <;> try rfl
  rename_i xs
  dsimp only
  cases D.ints xs with
  | none => exact propext ⟨fun k => k.elim, fun ⟨_, e, _⟩ => by cases e⟩
  | some ns =>
    dsimp only
    split
    · rename_i h
      exact propext ⟨fun k => ⟨ns, rfl, h, k⟩, fun ⟨_, e, _, k⟩ => by cases e; exact k⟩
    · rename_i h
      exact propext ⟨fun k => k.elim, fun ⟨_, e, k, _⟩ => by cases e; exact absurd k h⟩
theorem Y0_ixL : Y0 (evIxL j m) ρ K X = match ρ[j]? with
    | some (.cel _ (.lst _)) => Y0 (dat m) ρ (fun d ρ1 => match ρ1[j]? with | some (.cel _ (.lst xs)) => (match d with | .int i => ∃ z, atI xs i = some z ∧ K (.d z) ρ1 | _ => False) | _ => False) X
    | _ => False := by
  unfold evIxL
  rw [Y0_bnd, Y0_isL]
  cases ρ[j]? with
  | none => rfl
  | some s => cases s with
    | cel k c => cases c with
      | lst xs =>
        dsimp only
        rw [Y0_bnd]
        congr 1
        funext d ρ1
        unfold Y0
        dsimp only
        generalize ρ1[j]? = o
        cases o with
        | none => cases d <;> rfl
        | some s => cases s with
          | cel k c => cases c with
            | lst ys =>
              cases d <;> try rfl
              rename_i i
              dsimp only
              cases atI ys i with
              | none => exact propext ⟨fun h => h.elim, fun ⟨_, e, _⟩ => by cases e⟩
              | some z => exact propext ⟨fun h => ⟨z, rfl, h⟩, fun ⟨_, e, h⟩ => by cases e; exact h⟩
            | _ => cases d <;> rfl
          | _ => cases d <;> rfl
      | _ => rfl
    | _ => rfl
theorem Y0_setI : Y0 (evSetI j a b) ρ KF X = Y0 (dat b) ρ (fun d ρ1 => match ρ1[j]? with
    | some (.cel _ (.lst _)) => Y0 (dat a) ρ1 (fun i ρ2 => match i with
      | .int i => (match ρ2[j]? with | some (.cel k (.lst xs)) => ∃ n, ixN xs.length i = some n ∧ KF .nx (ρ2.set j (.cel k (.lst (xs.set n d)))) | _ => False)
      | _ => False) X
    | _ => False) X := by
  unfold evSetI
  rw [Y0_bnd]; congr 1; funext d ρ1
  rw [Y0_bnd, Y0_isL]
  cases ρ1[j]? with
  | none => rfl
  | some s => cases s with
    | cel k c => cases c with
      | lst xs =>
        dsimp only
        rw [Y0_bnd]
        congr 1
        funext i ρ2
        cases i with
        | int i =>
          dsimp only
          rw [Y0_bnd, Y0_modL]
          cases ρ2[j]? with
          | none => rfl
          | some s => cases s with
            | cel k c => cases c with
              | lst xs =>
                dsimp only
                cases ixN xs.length i with
                | none => exact propext ⟨fun ⟨_, e, _⟩ => (by cases e), fun ⟨_, e, _⟩ => (by cases e)⟩
                | some n => exact propext ⟨fun ⟨_, e, h⟩ => ⟨n, rfl, by cases e; exact h⟩, fun ⟨_, e, h⟩ => ⟨_, rfl, by cases e; exact h⟩⟩
              | _ => rfl
            | _ => rfl
        | _ => rfl
      | _ => rfl
    | _ => rfl
theorem Y0_as0 : Y0 (evAs []) ρ KA X = KA [] ρ := id rfl
theorem Y0_asE : Y0 (evAs (.e m :: as)) ρ KA X = Y0 (dat m) ρ (fun d ρ1 => Y0 (evAs as) ρ1 (fun ar ρ2 => KA (.d d :: ar) ρ2) X) X := by
  show Y0 (bnd _ _) ρ KA X = _
  rw [Y0_bnd]; congr 1; funext d ρ1; rw [Y0_bnd]; rfl
theorem Y0_asC : Y0 (evAs (.c j :: as)) ρ KA X = match ρ[j]? with | some (.cel _ _) => Y0 (evAs as) ρ (fun ar ρ2 => KA (.c j :: ar) ρ2) X | _ => False := by
  conv => lhs; unfold Y0 evAs
  cases h : ρ[j]? with
  | none => rfl
  | some s => cases s with
    | cel k c =>
      dsimp only
      have := Y0_bnd (ρ := ρ) (m := evAs as) (k := fun as => pur (Ar.c j :: as)) (K := KA) (X := X)
      unfold Y0 at this ⊢
      exact this
    | _ => rfl
theorem Y0_callG {G : Fn} {ar : List Ar} : Y0 (callG n G ar) ρ K X = ∃ ss, argSl ρ ar = some ss ∧ (ar.length = n ∧ (celsOf ar).Nodup) ∧ Y0 G ss (fun r ss' => K r (back ρ ar ss')) (fun c pl ss' => X c pl (back ρ ar ss')) := by
  unfold Y0 callG
  cases argSl ρ ar with
  | none => exact propext ⟨fun h => h.elim, fun ⟨_, e, _⟩ => by cases e⟩
  | some ss =>
    dsimp only
    by_cases h : ar.length = n ∧ (celsOf ar).Nodup
    · rw [if_pos h]
      refine propext ⟨fun z => ⟨ss, rfl, h, ?_⟩, fun ⟨_, e, _, z⟩ => ?_⟩
      · cases e : G ss with
        | none => rw [e] at z; exact z
        | some x => obtain ⟨r, s2⟩ := x; rw [e] at z; cases r <;> exact z
      · cases e
        cases e : G ss with
        | none => rw [e] at z; exact z
        | some x => obtain ⟨r, s2⟩ := x; rw [e] at z; cases r <;> exact z
    · rw [if_neg h]
      exact propext ⟨fun z => z.elim, fun ⟨_, _, z, _⟩ => h z⟩
theorem Y0_call {G : Fn} {ds : List D} : Y0 (evCall n G as ds) ρ K X = Y0 (evAs as) ρ (fun ar ρ1 => Y0 (callG n G (ar ++ ds.map .d)) ρ1 K X) X := by unfold evCall; rw [Y0_bnd]
theorem Y0_call0 {G : Fn} {ds : List D} : Y0 (evCall0 n G as ds) ρ K X = Y0 (evAs as) ρ (fun ar ρ1 => Y0 (callG n G (ar ++ ds.map .d)) ρ1 K NX) X := by
  unfold evCall0; rw [Y0_bnd]; congr 1; funext ar ρ1; rw [Y0_noEr]
theorem Y0_callN {G : Fn} {c : CC} {ar : List Ar} : Y0 (callN n G c ar) ρ K X = Y0 (callG n G (.c ρ.length :: ar)) (ρ ++ [.cel .own c]) (fun r ρ1 => K r (ρ1.take ρ.length)) (fun c pl ρ1 => X c pl (ρ1.take ρ.length)) := by
  unfold Y0 callN
  cases callG n G (.c ρ.length :: ar) (ρ ++ [.cel .own c]) with
  | none => rfl
  | some x => obtain ⟨r, ρ1⟩ := x; cases r <;> rfl
theorem Y0_CallN {G : Fn} {ds : List D} : Y0 (evCallN n G m as ds) ρ K X = Y0 m ρ (fun r ρ1 => match r with | .c c => Y0 (evAs as) ρ1 (fun ar ρ2 => Y0 (callN n G c (ar ++ ds.map .d)) ρ2 K X) X | .d _ => False) X := by
  unfold evCallN; rw [Y0_bnd]; congr 1; funext r ρ1
  cases r with
  | d d => rfl
  | c c => exact Y0_bnd
theorem Y0_CallN0 {G : Fn} {ds : List D} : Y0 (evCallN0 n G m as ds) ρ K X = Y0 m ρ (fun r ρ1 => match r with | .c c => Y0 (evAs as) ρ1 (fun ar ρ2 => Y0 (callN n G c (ar ++ ds.map .d)) ρ2 K NX) X | .d _ => False) X := by
  unfold evCallN0; rw [Y0_bnd]; congr 1; funext r ρ1
  cases r with
  | d d => rfl
  | c c =>
    dsimp only
    rw [Y0_bnd]; congr 1; funext ar ρ2; rw [Y0_noEr]
theorem Y0_CallC {G : Fn} {c : Cl} : Y0 (evCallC n G c as) ρ K X = Y0 (evAs as) ρ (fun ar ρ1 => Y0 (callG n G (.d (.cl c) :: ar)) ρ1 K NX) X := by
  unfold evCallC; rw [Y0_bnd]; congr 1; funext ar ρ1; rw [Y0_noEr]
theorem Y0_CallCS {G : Fn} {c : Cl} : Y0 (evCallCS n G c as) ρ K X = Y0 (evAs as) ρ (fun ar ρ1 => Y0 (callG n G (.d (.cl c) :: ar)) ρ1 K X) X := by
  unfold evCallCS; rw [Y0_bnd]
theorem Y0_mkL {G : Fn} {c : Cl} : Y0 (evMkL i n G c as) ρ K X = match ρ[i]? with | some (.dat (.cl c')) => c' = c ∧ Y0 (evMk n G c as []) ρ K X | _ => False := by
  conv => lhs; unfold Y0 evMkL
  cases ρ[i]? with
  | none => rfl
  | some s =>
    cases s with
    | dat d =>
      cases d with
      | cl c' =>
        dsimp only
        by_cases h : c' = c
        · rw [if_pos h]; exact propext ⟨fun q => ⟨h, q⟩, fun q => q.2⟩
        · rw [if_neg h]; exact propext ⟨fun q => q.elim, fun q => h q.1⟩
      | _ => rfl
    | _ => rfl
theorem Y0_BestN {f : Int → Int → Int} {es : List DE} : Y0 (evBestN f es) ρ K X = Y0 (evDs es) ρ (fun ds ρ1 => ∃ z, gBestN f ds = some z ∧ K (.d z) ρ1) X := by
  unfold evBestN
  rw [Y0_bnd]; congr 1; funext ds ρ1; rw [Y0_opt]
  exact propext ⟨fun ⟨r, e, k⟩ => by obtain ⟨z, e1, e2⟩ := map_some e; subst e2; exact ⟨z, e1, k⟩, fun ⟨z, e, k⟩ => ⟨_, by rw [e]; rfl, k⟩⟩
theorem Y0_own2 {G : Fn} {c : Cl} : Y0 (evOwn2 n G c a b) ρ K X = Y0 (dat a) ρ (fun d ρ1 => match d with
    | .obj c' xs => c' = c ∧ Y0 (dat b) ρ1 (fun d2 ρ2 => match d2 with | .obj c2 ys => c2 = c ∧ Y0 (callG n G [.d (.obj c xs), .d (.obj c ys)]) ρ2 K NX | _ => False) X
    | _ => False) X := by
  unfold evOwn2
  rw [Y0_bnd]; congr 1; funext d ρ1
  cases d <;> try rfl
  rename_i c' xs
  dsimp only
  rw [Y0_if]
  by_cases h : c' = c
  · rw [if_pos h, Y0_bnd]
    simp only [h, true_and]
    congr 1; funext d2 ρ2
    cases d2 <;> try rfl
    rename_i c2 ys
    dsimp only
    rw [Y0_if]
    by_cases h2 : c2 = c
    · rw [if_pos h2, Y0_noEr]; simp only [h2, true_and]
    · rw [if_neg h2, Y0_fai]; simp only [h2, false_and]
  · rw [if_neg h, Y0_fai]; simp only [h, false_and]
theorem Y0_own2S {G : Fn} {c : Cl} : Y0 (evOwn2S n G c a b) ρ K X = Y0 (dat a) ρ (fun d ρ1 => match d with
    | .obj c' xs => c' = c ∧ Y0 (dat b) ρ1 (fun d2 ρ2 => match d2 with | .obj c2 ys => c2 = c ∧ Y0 (callG n G [.d (.obj c xs), .d (.obj c ys)]) ρ2 K X | _ => False) X
    | _ => False) X := by
  unfold evOwn2S
  rw [Y0_bnd]; congr 1; funext d ρ1
  cases d <;> try rfl
  rename_i c' xs
  dsimp only
  rw [Y0_if]
  by_cases h : c' = c
  · rw [if_pos h, Y0_bnd]
    simp only [h, true_and]
    congr 1; funext d2 ρ2
    cases d2 <;> try rfl
    rename_i c2 ys
    dsimp only
    rw [Y0_if]
    by_cases h2 : c2 = c
    · rw [if_pos h2]; simp only [h2, true_and]
    · rw [if_neg h2, Y0_fai]; simp only [h2, false_and]
  · rw [if_neg h, Y0_fai]; simp only [h, false_and]
theorem Y0_st {k : StK} : Y0 (evSt k m) ρ K X = Y0 (dat m) ρ (fun d ρ1 => match d with | .tup xs => K (.d (.tup (k.ap xs))) ρ1 | _ => False) X := by
  unfold evSt; rw [Y0_bnd]; congr 1; funext d ρ1; cases d <;> rfl
theorem Y0_ownIn {G : Fn} {c : Cl} : Y0 (evOwnIn n G c a b) ρ K X = Y0 (dat a) ρ (fun x ρ1 => Y0 (dat b) ρ1 (fun d ρ2 => match d with
    | .obj c' xs => c' = c ∧ Y0 (tst (noEr (callG n G [.d (.obj c xs), .d x]))) ρ2 (fun z ρ3 => K (.d (.bl z)) ρ3) X
    | _ => False) X) X := by
  unfold evOwnIn
  rw [Y0_bnd]; congr 1; funext x ρ1
  rw [Y0_bnd]; congr 1; funext d ρ2
  cases d <;> try rfl
  rename_i c' xs
  dsimp only
  rw [Y0_if]
  by_cases h : c' = c
  · rw [if_pos h, Y0_bnd]; simp only [h, true_and]; rfl
  · rw [if_neg h, Y0_fai]; simp only [h, false_and]
theorem Y0_ownNin {G : Fn} {c : Cl} : Y0 (evOwnNin n G c a b) ρ K X = Y0 (dat a) ρ (fun x ρ1 => Y0 (dat b) ρ1 (fun d ρ2 => match d with
    | .obj c' xs => c' = c ∧ Y0 (tst (noEr (callG n G [.d (.obj c xs), .d x]))) ρ2 (fun z ρ3 => K (.d (.bl (!z))) ρ3) X
    | _ => False) X) X := by
  unfold evOwnNin
  rw [Y0_bnd]; congr 1; funext x ρ1
  rw [Y0_bnd]; congr 1; funext d ρ2
  cases d <;> try rfl
  rename_i c' xs
  dsimp only
  rw [Y0_if]
  by_cases h : c' = c
  · rw [if_pos h, Y0_bnd]; simp only [h, true_and]; rfl
  · rw [if_neg h, Y0_fai]; simp only [h, false_and]
theorem datas_0 : datas [] = some [] := id rfl
theorem datas_d {d : D} {ar : List Ar} : datas (.d d :: ar) = (datas ar).map (d :: ·) := by
  show (match Ar.data (.d d), datas ar with | some d, some ds => some (d :: ds) | _, _ => none) = _
  cases datas ar <;> rfl
theorem Y0_callV {G : Fn} {ds : List D} : Y0 (callV n G ds) ρ K X = ((n ≤ ds.length ∧ ds.length ≤ 1000000) ∧ Y0 (callG (n + 1) G ((ds.take n).map .d ++ [.d (.tup (ds.drop n))])) ρ K X) := by
  unfold callV
  rw [Y0_if]
  by_cases h : n ≤ ds.length ∧ ds.length ≤ 1000000
  · rw [if_pos h]; simp only [h, true_and, and_self]
  · rw [if_neg h]; exact propext ⟨fun z => z.elim, fun z => h z.1⟩
theorem Y0_CallV {G : Fn} : Y0 (evCallV n G as) ρ K X = Y0 (evAs as) ρ (fun ar ρ1 => ∃ ds, datas ar = some ds ∧ Y0 (callV n G ds) ρ1 K X) X := by
  unfold evCallV
  rw [Y0_bnd]; congr 1; funext ar ρ1
  rw [Y0_bnd, Y0_opt]
theorem Y0_CallV0 {G : Fn} : Y0 (evCallV0 n G as) ρ K X = Y0 (evAs as) ρ (fun ar ρ1 => ∃ ds, datas ar = some ds ∧ Y0 (callV n G ds) ρ1 K NX) X := by
  unfold evCallV0
  rw [Y0_bnd]; congr 1; funext ar ρ1
  rw [Y0_bnd, Y0_opt]
  congr 1; funext ds; rw [Y0_noEr]
theorem Y0_CallVS {G : Fn} : Y0 (evCallVS n G m) ρ K X = Y0 (dat m) ρ (fun d ρ1 => ∃ ds, d.items = some ds ∧ Y0 (callV n G ds) ρ1 K X) X := by
  unfold evCallVS
  rw [Y0_bnd]; congr 1; funext d ρ1
  rw [Y0_bnd, Y0_opt]
theorem Y0_mkG {G : Fn} {c : Cl} {ar : List Ar} : Y0 (mkG n G c ar) ρ K X = Y0 (callG n G (.c ρ.length :: ar)) (ρ ++ [.cel .own (.obj c [])]) (fun r ρ1 => match r, ρ1[ρ.length]? with | .d .non, some (.cel .own c') => K (.c c') (ρ1.take ρ.length) | _, _ => False) (fun c pl ρ1 => X c pl (ρ1.take ρ.length)) := by
  unfold Y0 mkG
  dsimp only
  generalize callG n G (.c ρ.length :: ar) (ρ ++ [.cel .own (.obj c [])]) = z
  cases z with
  | none => rfl
  | some x =>
    obtain ⟨r, ρ1⟩ := x
    cases r with
    | er c pl => rfl
    | ok r =>
      cases r with
      | c c => cases ρ1[ρ.length]? <;> rfl
      | d d =>
        cases d with
        | non =>
          dsimp only
          cases ρ1[ρ.length]? with
          | none => rfl
          | some s => cases s with
            | cel k c => cases k <;> rfl
            | _ => rfl
        | _ => cases ρ1[ρ.length]? <;> rfl
theorem Y0_mk {G : Fn} {c : Cl} {ds : List D} : Y0 (evMk n G c as ds) ρ K X = Y0 (evAs as) ρ (fun ar ρ1 => Y0 (mkG n G c (ar ++ ds.map .d)) ρ1 K X) X := by unfold evMk; rw [Y0_bnd]
theorem Y0_mk0 {G : Fn} {c : Cl} {ds : List D} : Y0 (evMk0 n G c as ds) ρ K X = Y0 (evAs as) ρ (fun ar ρ1 => Y0 (mkG n G c (ar ++ ds.map .d)) ρ1 K NX) X := by
  unfold evMk0; rw [Y0_bnd]; congr 1; funext ar ρ1; rw [Y0_noEr]
theorem Y0_meth {G : Fn} {c : Cl} : Y0 (evMeth n G c m as) ρ K X = Y0 (dat m) ρ (fun d ρ1 => match d with | .obj c' xs => c' = c ∧ Y0 (evAs as) ρ1 (fun ar ρ2 => Y0 (callG n G (.d (.obj c' xs) :: ar)) ρ2 K NX) X | _ => False) X := by
  unfold evMeth; rw [Y0_bnd]; congr 1; funext d ρ1
  cases d <;> try rfl
  rename_i c' xs
  dsimp only
  rw [Y0_if]
  by_cases h : c' = c
  · rw [if_pos h, Y0_bnd]
    simp only [h, true_and, Y0_noEr]
  · rw [if_neg h, Y0_fai]; simp [h]
theorem Y0_methS {G : Fn} {c : Cl} : Y0 (evMethS n G c m as) ρ K X = Y0 (dat m) ρ (fun d ρ1 => match d with | .obj c' xs => c' = c ∧ Y0 (evAs as) ρ1 (fun ar ρ2 => Y0 (callG n G (.d (.obj c' xs) :: ar)) ρ2 K X) X | _ => False) X := by
  unfold evMethS; rw [Y0_bnd]; congr 1; funext d ρ1
  cases d <;> try rfl
  rename_i c' xs
  dsimp only
  rw [Y0_if]
  by_cases h : c' = c
  · rw [if_pos h, Y0_bnd]
    simp only [h, true_and]
  · rw [if_neg h, Y0_fai]; simp [h]
theorem Y0_runB {k : Nat} {ss : List Sl} : Y0 (runB k s) ss K X = Y0 s (ss ++ List.replicate k .un) (fun f ρ => match f with | .nx => K (.d .non) (outs ss ρ) | .rt r => K r (outs ss ρ) | _ => False) (fun c pl ρ => X c pl (outs ss ρ)) := by
  unfold Y0 runB
  dsimp only
  generalize s (ss ++ List.replicate k .un) = z
  cases z with
  | none => rfl
  | some x => obtain ⟨r, ρ1⟩ := x; cases r with
    | ok f => cases f <;> rfl
    | er c pl => rfl
theorem Y0_run0 {k : Nat} {ss : List Sl} : Y0 (run0 k s) ss K X = Y0 s (ss ++ List.replicate k .un) (fun f ρ => match f with | .nx => K (.d .non) (outs ss ρ) | .rt r => K r (outs ss ρ) | _ => False) NX := by
  unfold run0; rw [Y0_noEr, Y0_runB]
theorem Y0_raise {c : Cl} : Y0 (evRaise c) ρ KF X = X c none ρ := id rfl
theorem Y0_raiseP {c : Cl} : Y0 (evRaiseP c m) ρ KF X = Y0 (dat m) ρ (fun d ρ1 => fmtD d = true ∧ X c (some d) ρ1) X := by
  unfold evRaiseP
  rw [Y0_bnd]; congr 1; funext d ρ1
  cases e : fmtD d with
  | true =>
    rw [if_pos rfl]
    exact propext ⟨fun h => ⟨rfl, h⟩, fun h => h.2⟩
  | false =>
    rw [if_neg (by decide)]
    exact propext ⟨fun h => h.elim, fun h => by cases h.1⟩
theorem Y0_raise1 {c : Cl} : Y0 (evRaise1 c m) ρ KF X = Y0 m ρ (fun _ ρ1 => X c none ρ1) X := by unfold evRaise1; rw [Y0_bnd]; rfl
theorem Y0_for {it : M (List D)} {tg : Tg} : Y0 (evFor it tg s) ρ KF X = Y0 it ρ (fun xs ρ1 => Y0 (loop tg s xs) ρ1 KF X) X := by unfold evFor; rw [Y0_bnd]
theorem Y0_isi {tbl : List (TyN × Bool)} : Y0 (evIsi tbl m) ρ K X = Y0 (dat m) ρ (fun d ρ1 => ∃ b, (d.tyN.bind fun t => tbl.lookup t) = some b ∧ K (.d (.bl b)) ρ1) X := by
  unfold evIsi; rw [Y0_bnd]; congr 1; funext d ρ1; rw [Y0_opt]
  exact propext ⟨fun ⟨r, e, k⟩ => by obtain ⟨z, e1, e2⟩ := map_some e; subst e2; exact ⟨z, e1, k⟩, fun ⟨z, e, k⟩ => ⟨_, by rw [e]; rfl, k⟩⟩
theorem Y0_tTr : Y0 (tTr m) ρ KB X = Y0 (dat m) ρ (fun d ρ1 => ∃ b, d.truth = some b ∧ KB b ρ1) X := by
  unfold tTr; rw [Y0_bnd]; congr 1; funext d ρ1; rw [Y0_opt]
theorem Y0_fldS {c : Cl} {f : Str} : Y0 (evFldS c j f m) ρ KF X = Y0 (dat m) ρ (fun d ρ1 => match ρ1[j]? with | some (.cel k (.obj c' kvs)) => (c' = c ∧ kvs.length < 1000) ∧ KF .nx (ρ1.set j (.cel k (.obj c' (putD f d kvs)))) | _ => False) X := by
  unfold evFldS; rw [Y0_bnd]; congr 1; funext d ρ1
  unfold Y0
  dsimp only
  generalize ρ1[j]? = z
  cases z with
  | none => rfl
  | some s => cases s with
    | cel k cc => cases cc with
      | obj c' kvs =>
        dsimp only
        by_cases h : c' = c ∧ kvs.length < 1000
        · rw [if_pos h]; simp [h]
        · rw [if_neg h]; simp only [h, false_and]
      | _ => rfl
    | _ => rfl
/-- a statement, then the rest: what holds between them is said -/
theorem Y0_cut {J : List Sl → Prop} (h : Y0 s ρ (fun f ρ1 => f = .nx ∧ J ρ1) X) (k : ∀ ρ1, J ρ1 → Y0 t ρ1 KF X) : Y0 (evSeq s t) ρ KF X := by
  rw [Y0_seq]
  refine h.mono (fun f ρ1 q => ?_) (fun _ _ _ q => q)
  obtain ⟨e, q⟩ := q
  subst e
  exact k ρ1 q
/-- a loop with an invariant over what is still to come -/
theorem Y0_loop {tg : Tg} {I : List D → List Sl → Prop} : ∀ {xs : List D} {ρ : List Sl}, I xs ρ → (∀ x r ρ, I (x :: r) ρ → Y0 (asgT tg x) ρ (fun f ρ1 => f = .nx ∧ Y0 s ρ1 (fun f ρ2 => match f with | .nx => I r ρ2 | .ct => I r ρ2 | .bk => KF .nx ρ2 | .rt v => KF (.rt v) ρ2) X) NX) → (∀ ρ, I [] ρ → KF .nx ρ) → Y0 (loop tg s xs) ρ KF X
  | [], ρ, h, _, e => e ρ h
  | x :: xs, ρ, h, st, e => by
    obtain ⟨f, ρ1, e1, rfl, z⟩ := (st x xs ρ h).mk
    conv => unfold Y0 loop
    rw [e1]
    dsimp only
    unfold Y0 at z
    cases es : s ρ1 with
    | none => rw [es] at z; exact z.elim
    | some y =>
      obtain ⟨r, ρ2⟩ := y
      rw [es] at z
      cases r with
      | er c pl => exact z
      | ok f =>
        cases f with
        | nx => have := Y0_loop (xs := xs) z st e; unfold Y0 at this; exact this
        | ct => have := Y0_loop (xs := xs) z st e; unfold Y0 at this; exact this
        | bk => exact z
        | rt v => exact z
theorem Y0_asgT {tg : Tg} : Y0 (evAsgT tg m) ρ KF X = Y0 (dat m) ρ (fun d ρ1 => Y0 (asgT tg d) ρ1 (fun f ρ2 => f = .nx ∧ KF .nx ρ2) NX) X := by
  unfold evAsgT; rw [Y0_bnd]; congr 1; funext d ρ1
  unfold Y0
  dsimp only
  generalize asgT tg d ρ1 = z
  cases z with
  | none => rfl
  | some x =>
    obtain ⟨r, ρ2⟩ := x
    cases r with
    | er c pl => rfl
    | ok f => cases f <;> simp
theorem Y0_asgTt {ts : List Tg} {xs : List D} : Y0 (asgT (.t ts) (.tup xs)) ρ KF X = Y0 (asgTs ts xs) ρ KF X := by rw [asgT]
theorem Y0_asgTs0 : Y0 (asgTs [] []) ρ KF X = KF .nx ρ := by rw [asgTs]; rfl
theorem Y0_asgTsC {t : Tg} {ts : List Tg} {x : D} {xs : List D} : Y0 (asgTs (t :: ts) (x :: xs)) ρ KF X = Y0 (evSeq (asgT t x) (asgTs ts xs)) ρ KF X := by rw [asgTs]
theorem Y0_part0 {KO : Option Int → List Sl → Prop} : Y0 (dPart none) ρ KO X = KO none ρ := id rfl
theorem Y0_partS {KO : Option Int → List Sl → Prop} : Y0 (dPart (some m)) ρ KO X = Y0 (dat m) ρ (fun d ρ1 => match d with | .int i => KO (some i) ρ1 | _ => False) X := by
  show Y0 (bnd (dat m) _) ρ KO X = _
  rw [Y0_bnd]; congr 1; funext d ρ1; cases d <;> rfl
theorem Y0_sl {l u : Option Ev} : Y0 (evSl m l u) ρ K X = Y0 (dat m) ρ (fun d ρ1 => Y0 (dPart l) ρ1 (fun lo ρ2 => Y0 (dPart u) ρ2 (fun hi ρ3 => match d with
    | .lst xs => K (.c (.lst (cut xs lo hi))) ρ3
    | .sq xs => K (.c (.lst (cut xs lo hi))) ρ3
    | .tup xs => K (.d (.tup (cut xs lo hi))) ρ3
    | .str z => z.length ≤ 16777216 ∧ K (.d (.str (cutS z lo hi))) ρ3
    | _ => False) X) X) X := by
  unfold evSl
  rw [Y0_bnd]; congr 1; funext d ρ1
  rw [Y0_bnd]; congr 1; funext lo ρ2
  rw [Y0_bnd]; congr 1; funext hi ρ3
  cases d <;> try rfl
  dsimp only
  rw [Y0_if]
  split
  · rename_i h; simp only [h, true_and]; rfl
  · rename_i h; simp only [h, false_and]; rfl
theorem Y0_rev : Y0 (evRev m) ρ K X = Y0 (dat m) ρ (fun d ρ1 => ∃ xs, d.litems = some xs ∧ K (.c (.lst xs.reverse)) ρ1) X := by
  unfold evRev
  rw [Y0_bnd]; congr 1; funext d ρ1
  cases d.litems with
  | none => exact propext ⟨fun h => h.elim, fun ⟨_, e, _⟩ => by cases e⟩
  | some xs => exact propext ⟨fun h => ⟨xs, rfl, h⟩, fun ⟨_, e, h⟩ => by cases e; exact h⟩
theorem Y0_vNoT : Y0 (vNoT m) ρ K X = Y0 (dat m) ρ (fun d ρ1 => ∃ b, d.truth = some b ∧ K (.d (.bl (!b))) ρ1) X := by
  unfold vNoT; rw [Y0_bnd]; congr 1; funext d ρ1; rw [Y0_opt]
  exact propext ⟨fun ⟨r, e, k⟩ => by obtain ⟨z, e1, e2⟩ := map_some e; subst e2; exact ⟨z, e1, k⟩, fun ⟨z, e, k⟩ => ⟨_, by rw [e]; rfl, k⟩⟩
theorem Y0_maxD {es : List DE} : Y0 (evMaxD es m) ρ K X = Y0 (evDs es) ρ (fun ds ρ1 => Y0 (dat m) ρ1 (fun d ρ2 => match d with | .int n => ∃ z, gMaxD n ds = some z ∧ K (.d z) ρ2 | _ => False) X) X := by
  unfold evMaxD
  rw [Y0_bnd]; congr 1; funext ds ρ1
  rw [Y0_bnd]; congr 1; funext d ρ2
  cases d <;> try rfl
  dsimp only
  rw [Y0_opt]
  exact propext ⟨fun ⟨r, e, k⟩ => by obtain ⟨z, e1, e2⟩ := map_some e; subst e2; exact ⟨z, e1, k⟩, fun ⟨z, e, k⟩ => ⟨_, by rw [e]; rfl, k⟩⟩
theorem Y0_itO {c : Cl} {KI : List D → List Sl → Prop} : Y0 (itO c i m) ρ KI X = Y0 (dat m) ρ (fun d ρ1 => match d with | .obj c' xs => c' = c ∧ (match xs[i]? with | some (.tup ys) => KI ys ρ1 | _ => False) | _ => False) X := by
  unfold itO
  rw [Y0_bnd]; congr 1; funext d ρ1
  cases d <;> try rfl
  dsimp only
  rw [Y0_if]
  split
  · rename_i h
    simp only [h, true_and]
    rename_i xs
    cases xs[i]? with
    | none => rfl
    | some d => cases d <;> rfl
  · rename_i h; simp only [h, false_and]; rfl
/-- a comprehension whose element is a function of the item -/
theorem Y0_lc {vs : List Nat} {it : M (List D)} {tg : Tg} {e : Ev} : Y0 (evLc vs it tg u e) ρ K X = Y0 it ρ (fun xs ρ1 => okOwn ρ1 vs = true ∧ Y0 (lcGo vs tg u e xs []) (wipeR ρ1 vs) (fun acc ρ2 => K (.c (.lst acc)) (restR ρ1 ρ2 vs)) NX) X := by
  unfold evLc
  rw [Y0_bnd]; congr 1; funext xs ρ1
  unfold lcRun
  conv => lhs; unfold Y0
  by_cases h : okOwn ρ1 vs = true
  · simp only [h, if_true, true_and]
    unfold Y0
    cases lcGo vs tg u e xs [] (wipeR ρ1 vs) with
    | none => rfl
    | some x => obtain ⟨r, ρ2⟩ := x; cases r <;> rfl
  · have h' : okOwn ρ1 vs = false := by simpa using h
    simp [h']
/-- .. item by item: f x is none where the test fails -/
theorem Y0_lcGo {vs : List Nat} {tg : Tg} {e : Ev} {f : D → Option D} {ρ0 : List Sl} {KS : List D → List Sl → Prop} {P : D → Prop} (st : ∀ (x : D) (acc : List D), P x → acc.length < 16777216 → Y0 (asgT tg x) ρ0 (fun g ρ1 => g = .nx ∧ Y0 (noEr u) ρ1 (fun b ρ2 => if b = true then Y0 (dat (noEr e)) ρ2 (fun d ρ3 => f x = some d ∧ wipeR ρ3 vs = ρ0) NX else f x = none ∧ wipeR ρ2 vs = ρ0) NX) NX) :
    ∀ (xs acc : List D), (∀ x ∈ xs, P x) → acc.length + xs.length ≤ 16777216 → KS (acc ++ xs.filterMap f) ρ0 → Y0 (lcGo vs tg u e xs acc) ρ0 KS X
  | [], acc, _, _, h => by rw [List.filterMap_nil, List.append_nil] at h; exact h
  | x :: xs, acc, hp, hl, h => by
    rw [List.length_cons] at hl
    obtain ⟨g, ρ1, e1, rfl, z⟩ := (st x acc (hp x List.mem_cons_self) (by omega)).mk
    obtain ⟨b, ρ2, e2, z⟩ := z.mk
    have hp' : ∀ y ∈ xs, P y := fun y hy => hp y (List.mem_cons_of_mem _ hy)
    conv => unfold Y0 lcGo
    rw [e1]
    show Y0 (bnd _ _) ρ1 KS X
    rw [Y0_bnd]
    refine Y0.of e2 ?_
    cases b with
    | false =>
      simp only [Bool.false_eq_true, if_false] at z ⊢
      obtain ⟨z1, z2⟩ := z
      have : Y0 (fun ρ => lcGo vs tg u e xs acc (wipeR ρ vs)) ρ2 KS X = Y0 (lcGo vs tg u e xs acc) (wipeR ρ2 vs) KS X := rfl
      rw [this, z2]
      refine Y0_lcGo st xs acc hp' (by omega) ?_
      rw [List.filterMap_cons, z1] at h
      exact h
    | true =>
      simp only [if_true] at z ⊢
      obtain ⟨d, ρ3, e3, z1, z2⟩ := z.mk
      rw [Y0_bnd]
      refine Y0.of e3 ?_
      rw [if_pos (by omega)]
      have : Y0 (fun ρ => lcGo vs tg u e xs (acc ++ [d]) (wipeR ρ vs)) ρ3 KS X = Y0 (lcGo vs tg u e xs (acc ++ [d])) (wipeR ρ3 vs) KS X := rfl
      rw [this, z2]
      refine Y0_lcGo st xs (acc ++ [d]) hp' (by rw [List.length_append, List.length_singleton]; omega) ?_
      rw [List.filterMap_cons, z1] at h
      simpa using h
/-- .. with an invariant: the element may change cells -/
theorem Y0_lcI {vs : List Nat} {tg : Tg} {e : Ev} {KS : List D → List Sl → Prop} {I : List D → List D → List Sl → Prop} {xs acc : List D} (h : I xs acc ρ)
    (st : ∀ (x : D) (r acc : List D) (ρ : List Sl), I (x :: r) acc ρ → acc.length < 16777216 ∧ Y0 (asgT tg x) ρ (fun g ρ1 => g = .nx ∧ Y0 (noEr u) ρ1 (fun b ρ2 => if b = true then Y0 (dat (noEr e)) ρ2 (fun d ρ3 => I r (acc ++ [d]) (wipeR ρ3 vs)) NX else I r acc (wipeR ρ2 vs)) NX) NX)
    (fin : ∀ (acc : List D) (ρ : List Sl), I [] acc ρ → KS acc ρ) : Y0 (lcGo vs tg u e xs acc) ρ KS X := by
  induction xs generalizing acc ρ with
  | nil => exact fin acc ρ h
  | cons x xs ih =>
    obtain ⟨hl, z⟩ := st x xs acc ρ h
    obtain ⟨g, ρ1, e1, rfl, z⟩ := z.mk
    obtain ⟨b, ρ2, e2, z⟩ := z.mk
    conv => unfold Y0 lcGo
    rw [e1]
    show Y0 (bnd _ _) ρ1 KS X
    rw [Y0_bnd]
    refine Y0.of e2 ?_
    cases b with
    | false =>
      simp only [Bool.false_eq_true, if_false] at z ⊢
      have : Y0 (fun ρ => lcGo vs tg u e xs acc (wipeR ρ vs)) ρ2 KS X = Y0 (lcGo vs tg u e xs acc) (wipeR ρ2 vs) KS X := rfl
      rw [this]
      exact ih z
    | true =>
      simp only [if_true] at z ⊢
      obtain ⟨d, ρ3, e3, z⟩ := z.mk
      rw [Y0_bnd]
      refine Y0.of e3 ?_
      rw [if_pos (by omega)]
      have : Y0 (fun ρ => lcGo vs tg u e xs (acc ++ [d]) (wipeR ρ vs)) ρ3 KS X = Y0 (lcGo vs tg u e xs (acc ++ [d])) (wipeR ρ3 vs) KS X := rfl
      rw [this]
      exact ih z
theorem Y0_lc2 {vs vs1 : List Nat} {it it1 : M (List D)} {tg tg1 : Tg} {v : M Bool} {e : Ev} : Y0 (evLc2 vs it tg u it1 vs1 tg1 v e) ρ K X = Y0 it ρ (fun xs ρ1 => okOwn ρ1 vs = true ∧ Y0 (lcGo2 vs tg u it1 vs1 tg1 v e xs []) (wipeR ρ1 vs) (fun acc ρ2 => K (.c (.lst acc)) (restR ρ1 ρ2 vs)) NX) X := by
  unfold evLc2
  rw [Y0_bnd]; congr 1; funext xs ρ1
  unfold lcRun
  conv => lhs; unfold Y0
  by_cases h : okOwn ρ1 vs = true
  · simp only [h, if_true, true_and]
    unfold Y0
    cases lcGo2 vs tg u it1 vs1 tg1 v e xs [] (wipeR ρ1 vs) with
    | none => rfl
    | some x => obtain ⟨r, ρ2⟩ := x; cases r <;> rfl
  · have h' : okOwn ρ1 vs = false := by simpa using h
    simp [h']
theorem Y0_Sc2 {vs vs1 : List Nat} {it : M (List D)} {tg tg1 : Tg} {v : M Bool} {lo hi : Int} {e : Ev} : Y0 (evSc2 vs it tg u lo hi vs1 tg1 v e) ρ K X = Y0 (evLc2 vs it tg u (pur (rngD lo (hi - lo).toNat)) vs1 tg1 v e) ρ (fun r ρ1 => match r with
    | .c (.lst xs) => ∃ ns, D.ints xs = some ns ∧ ns.length < 4000 ∧ K (.c (.lst ((srtI ns).map .int))) ρ1
    | _ => False) X := by
  unfold evSc2
  rw [Y0_bnd]; congr 1; funext r ρ1
  cases r with
  | d d => rfl
  | c c =>
    cases c <;> try rfl
    rename_i xs
    dsimp only
    cases D.ints xs with
    | none => exact propext ⟨fun k => k.elim, fun ⟨_, e, _⟩ => by cases e⟩
    | some ns =>
      dsimp only
      split
      · rename_i h
        exact propext ⟨fun k => ⟨ns, rfl, h, k⟩, fun ⟨_, e, _, k⟩ => by cases e; exact k⟩
      · rename_i h
        exact propext ⟨fun k => k.elim, fun ⟨_, e, l, _⟩ => by cases e; exact absurd l h⟩
theorem Y0_Rng2 {fa fb : Ev} {k : Int → Int → M Fl} : Y0 (evRng2 i fa fb k) ρ KF X = Y0 (dat fa) ρ (fun x ρ1 => Y0 (dat fb) ρ1 (fun y ρ2 => match x, y with
    | .int lo, .int hi => (-(2 ^ 62) ≤ lo ∧ lo < 2 ^ 62 ∧ -(2 ^ 62) ≤ hi ∧ hi < 2 ^ 62) ∧ ∃ s, ρ2[i]? = some s ∧ canSet s = true ∧ Y0 (k lo hi) (ρ2.set i .un) KF X
    | _, _ => False) X) X := by
  unfold evRng2
  rw [Y0_bnd]; congr 1; funext x ρ1
  rw [Y0_bnd]; congr 1; funext y ρ2
  cases x <;> try rfl
  rename_i lo
  cases y <;> try rfl
  rename_i hi
  dsimp only
  split
  · rename_i h
    unfold Y0
    dsimp only
    cases ρ2[i]? with
    | none => exact propext ⟨fun k => k.elim, fun ⟨_, _, e, _⟩ => by cases e⟩
    | some s =>
      have go : ∀ {P : Prop}, canSet s = true → (P = (_ ∧ ∃ s', some s = some s' ∧ canSet s' = true ∧ P)) := fun {P} z => propext ⟨fun q => ⟨h, s, rfl, z, q⟩, fun ⟨_, _, _, _, q⟩ => q⟩
      cases s with
      | cel k c => cases k with
        | own => exact go rfl
        | par => exact propext ⟨fun k => k.elim, fun ⟨_, _, e, z, _⟩ => by cases e; cases z⟩
      | _ => exact go rfl
  · rename_i h
    exact propext ⟨fun k => k.elim, fun k => absurd k.1 h⟩
theorem Y0_asgX : Y0 (evAsgX i m) ρ KF X = Y0 m ρ (fun r ρ1 => match r with | .c c => Y0 (PL.setC i c) ρ1 KF X | .d d => Y0 (PL.setD i d) ρ1 KF X) X := by
  unfold evAsgX
  rw [Y0_bnd]; congr 1; funext r ρ1
  cases r <;> rfl
/-- exceptions -/
theorem Y0.okE {α : Type} {m : M α} {ρ ρ1 : List Sl} {a : α} {K : α → List Sl → Prop} {X : XC} (e : m ρ = some (.ok a, ρ1)) : Y0 m ρ K X = K a ρ1 := by unfold Y0; rw [e]
theorem Y0.erE {α : Type} {m : M α} {ρ ρ1 : List Sl} {c : Cl} {pl : Option D} {K : α → List Sl → Prop} {X : XC} (e : m ρ = some (.er c pl, ρ1)) : Y0 m ρ K X = X c pl ρ1 := by unfold Y0; rw [e]
theorem Y0.noE {α : Type} {m : M α} {ρ : List Sl} {K : α → List Sl → Prop} {X : XC} (e : m ρ = none) : Y0 m ρ K X = False := by unfold Y0; rw [e]
theorem Y0.cg {α : Type} {m m' : M α} {ρ ρ' : List Sl} {K : α → List Sl → Prop} {X : XC} (e : m ρ = m' ρ') : Y0 m ρ K X = Y0 m' ρ' K X := by unfold Y0; rw [e]
theorem Y0_suiteO : Y0 (suiteO t) ρ KF X = (noExn ρ = true ∧ Y0 t ρ (fun f ρ2 => noExn ρ2 = true ∧ KF f ρ2) NX) := by
  by_cases h : noExn ρ = true
  · cases e : t ρ with
    | none => rw [Y0.noE (m := suiteO t) (by unfold suiteO; rw [if_pos h, e]), Y0.noE e]; simp
    | some x =>
      obtain ⟨r, ρ2⟩ := x
      cases r with
      | er c pl => rw [Y0.noE (m := suiteO t) (by unfold suiteO; rw [if_pos h, e]), Y0.erE e]; simp
      | ok f =>
        rw [Y0.okE e]
        by_cases h2 : noExn ρ2 = true
        · rw [Y0.okE (m := suiteO t) (a := f) (ρ1 := ρ2) (by unfold suiteO; rw [if_pos h, e]; simp only [h2, if_true])]; simp [h, h2]
        · rw [Y0.noE (m := suiteO t) (by unfold suiteO; rw [if_pos h, e]; simp only [h2]; rfl)]; simp [h2]
  · rw [Y0.noE (m := suiteO t) (by unfold suiteO; rw [if_neg h])]; simp [h]
theorem Y0_suiteA {c : Cl} {pl : Option D} : Y0 (suiteA i c pl t) ρ KF X = (noExn ρ = true ∧ ∃ z, ρ[i]? = some z ∧ canSet z = true ∧ Y0 t (ρ.set i (.exn c pl)) (fun f ρ2 => noExn (ρ2.set i .un) = true ∧ KF f (ρ2.set i .un)) NX) := by
  by_cases h : noExn ρ = true
  · cases hz : ρ[i]? with
    | none => rw [Y0.noE (m := suiteA i c pl t) (by unfold suiteA; rw [if_pos h, hz])]; simp
    | some z =>
      by_cases hc : canSet z = true
      · have e0 : suiteA i c pl t ρ = (match t (ρ.set i (.exn c pl)) with | some (.ok f, ρ2) => if noExn (ρ2.set i .un) = true then some (.ok f, ρ2.set i .un) else none | _ => none) := by
          unfold suiteA
          rw [if_pos h, hz]
          cases z with
          | cel k cc => cases k with
            | own => rfl
            | par => cases hc
          | _ => rfl
        have right : (noExn ρ = true ∧ ∃ z', some z = some z' ∧ canSet z' = true ∧ Y0 t (ρ.set i (.exn c pl)) (fun f ρ2 => noExn (ρ2.set i .un) = true ∧ KF f (ρ2.set i .un)) NX) = Y0 t (ρ.set i (.exn c pl)) (fun f ρ2 => noExn (ρ2.set i .un) = true ∧ KF f (ρ2.set i .un)) NX := propext ⟨fun ⟨_, _, _, _, q⟩ => q, fun q => ⟨h, z, rfl, hc, q⟩⟩
        rw [right]
        cases e : t (ρ.set i (.exn c pl)) with
        | none => rw [e] at e0; rw [Y0.noE e0, Y0.noE e]
        | some x =>
          obtain ⟨r, ρ2⟩ := x
          cases r with
          | er c pl => rw [e] at e0; rw [Y0.noE e0, Y0.erE e]
          | ok f =>
            rw [e] at e0
            rw [Y0.okE e]
            by_cases h2 : noExn (ρ2.set i .un) = true
            · rw [Y0.okE (e0.trans (if_pos h2))]; simp [h2]
            · rw [Y0.noE (e0.trans (if_neg h2))]; simp [h2]
      · have : suiteA i c pl t ρ = none := by
          unfold suiteA
          rw [if_pos h, hz]
          cases z with
          | cel k cc => cases k with
            | own => exact absurd rfl hc
            | par => rfl
          | _ => exact absurd rfl hc
        rw [Y0.noE this]
        exact propext ⟨fun q => q.elim, fun ⟨_, _, e, q, _⟩ => by cases e; exact hc q⟩
  · rw [Y0.noE (m := suiteA i c pl t) (by unfold suiteA; rw [if_neg h])]; simp [h]
theorem Y0_tryO {cat : List (Cl × Bool)} : Y0 (evTryO s cat t) ρ KF X = Y0 s ρ KF (fun c pl ρ1 => match cat.lookup c with | some true => noExn ρ1 = true ∧ Y0 t ρ1 (fun f ρ2 => noExn ρ2 = true ∧ KF f ρ2) NX | some false => X c pl ρ1 | none => False) := by
  cases e : s ρ with
  | none => rw [Y0.noE e, Y0.noE (m := evTryO s cat t) (by unfold evTryO; rw [e])]
  | some x =>
    obtain ⟨r, ρ1⟩ := x
    cases r with
    | ok f => rw [Y0.okE e, Y0.okE (m := evTryO s cat t) (a := f) (ρ1 := ρ1) (by unfold evTryO; rw [e])]
    | er c pl =>
      rw [Y0.erE e]
      have e0 : evTryO s cat t ρ = (match cat.lookup c with | some true => suiteO t ρ1 | some false => some (.er c pl, ρ1) | none => none) := by unfold evTryO; rw [e] <;> rfl
      cases el : cat.lookup c with
      | none => rw [el] at e0; rw [Y0.noE e0]
      | some b =>
        rw [el] at e0
        cases b with
        | false => rw [Y0.erE e0]
        | true => rw [Y0.cg (m' := suiteO t) (ρ' := ρ1) e0, Y0_suiteO]
theorem Y0_tryA {cat : List (Cl × Bool)} : Y0 (evTryA i s cat t) ρ KF X = Y0 s ρ KF (fun c pl ρ1 => match cat.lookup c with
    | some true => noExn ρ1 = true ∧ ∃ z, ρ1[i]? = some z ∧ canSet z = true ∧ Y0 t (ρ1.set i (.exn c pl)) (fun f ρ2 => noExn (ρ2.set i .un) = true ∧ KF f (ρ2.set i .un)) NX
    | some false => X c pl ρ1
    | none => False) := by
  cases e : s ρ with
  | none => rw [Y0.noE e, Y0.noE (m := evTryA i s cat t) (by unfold evTryA; rw [e])]
  | some x =>
    obtain ⟨r, ρ1⟩ := x
    cases r with
    | ok f => rw [Y0.okE e, Y0.okE (m := evTryA i s cat t) (a := f) (ρ1 := ρ1) (by unfold evTryA; rw [e])]
    | er c pl =>
      rw [Y0.erE e]
      have e0 : evTryA i s cat t ρ = (match cat.lookup c with | some true => suiteA i c pl t ρ1 | some false => some (.er c pl, ρ1) | none => none) := by unfold evTryA; rw [e] <;> rfl
      cases el : cat.lookup c with
      | none => rw [el] at e0; rw [Y0.noE e0]
      | some b =>
        rw [el] at e0
        cases b with
        | false => rw [Y0.erE e0]
        | true => rw [Y0.cg (m' := suiteA i c pl t) (ρ' := ρ1) e0, Y0_suiteA]
theorem Y0_tryM {cs : List Clp} : Y0 (evTryM s cs) ρ KF X = Y0 s ρ KF (fun c pl ρ1 => Y0 (pick cs c pl) ρ1 KF X) := by
  cases e : s ρ with
  | none => rw [Y0.noE e, Y0.noE (m := evTryM s cs) (by unfold evTryM; rw [e])]
  | some x =>
    obtain ⟨r, ρ1⟩ := x
    cases r with
    | ok f => rw [Y0.okE e, Y0.okE (m := evTryM s cs) (a := f) (ρ1 := ρ1) (by unfold evTryM; rw [e])]
    | er c pl =>
      rw [Y0.erE e]
      have e0 : evTryM s cs ρ = pick cs c pl ρ1 := by unfold evTryM; rw [e] <;> rfl
      rw [Y0.cg e0]
theorem Y0_pick0 {c : Cl} {pl : Option D} : Y0 (pick [] c pl) ρ KF X = X c pl ρ := id rfl
theorem Y0_pickC {c : Cl} {pl : Option D} {cat : List (Cl × Bool)} {cs : List Clp} : Y0 (pick ((i, cat, t) :: cs) c pl) ρ KF X = match cat.lookup c with
    | some true => Y0 (suiteA i c pl t) ρ KF X
    | some false => Y0 (pick cs c pl) ρ KF X
    | none => False := by
  have e0 : pick ((i, cat, t) :: cs) c pl ρ = (match cat.lookup c with | some true => suiteA i c pl t ρ | some false => pick cs c pl ρ | none => none) := rfl
  cases el : cat.lookup c with
  | none => rw [el] at e0; rw [Y0.noE e0]
  | some b =>
    rw [el] at e0
    cases b with
    | true => exact Y0.cg e0
    | false => exact Y0.cg e0
theorem Y0_isE {tbl : List (TyN × Bool)} : Y0 (evIsE i tbl) ρ K X = match ρ[i]? with | some (.exn c _) => ∃ b, tbl.lookup (.o c) = some b ∧ K (.d (.bl b)) ρ | _ => False := by
  unfold Y0 evIsE
  cases ρ[i]? with
  | none => rfl
  | some s => cases s with
    | exn c pl =>
      dsimp only
      cases tbl.lookup (.o c) with
      | none => exact propext ⟨fun h => h.elim, fun ⟨_, e, _⟩ => by cases e⟩
      | some b => exact propext ⟨fun h => ⟨b, rfl, h⟩, fun ⟨_, e, h⟩ => by cases e; exact h⟩
    | _ => rfl
theorem Y0_js0 {acc : Str} {KZ : Str → List Sl → Prop} : Y0 (evJs [] acc) ρ KZ X = KZ acc ρ := id rfl
theorem Y0_jsC {ms : List Ev} {acc : Str} {KZ : Str → List Sl → Prop} : Y0 (evJs (m :: ms) acc) ρ KZ X = Y0 (dat m) ρ (fun d ρ1 => match d with | .str y => (acc ++ y).length ≤ 16777216 ∧ Y0 (evJs ms (acc ++ y)) ρ1 KZ X | _ => False) X := by
  show Y0 (bnd (dat m) _) ρ KZ X = _
  rw [Y0_bnd]; congr 1; funext d ρ1
  cases d <;> try rfl
  rename_i y
  show Y0 (if (acc ++ y).length ≤ 16777216 then evJs ms (acc ++ y) else fai) ρ1 KZ X = _
  rw [Y0_if]
  by_cases h : (acc ++ y).length ≤ 16777216
  · rw [if_pos h]; exact propext ⟨fun q => ⟨h, q⟩, fun q => q.2⟩
  · rw [if_neg h]; exact propext ⟨fun q => q.elim, fun q => h q.1⟩
theorem Y0_jn {ms : List Ev} : Y0 (evJn ms) ρ K X = Y0 (evJs ms Str.empty) ρ (fun s ρ1 => K (.d (.str s)) ρ1) X := by unfold evJn; rw [Y0_bnd]; rfl
theorem ne_0 : noExn [] = true := id rfl
theorem ne_d {d : D} : noExn (.dat d :: ρ) = noExn ρ := id rfl
theorem ne_u : noExn (.un :: ρ) = noExn ρ := id rfl
theorem ne_c {k : CK} {c : CC} : noExn (.cel k c :: ρ) = noExn ρ := id rfl
theorem ne_x {c : Cl} {pl : Option D} : noExn (.exn c pl :: ρ) = false := id rfl
/-! dicts -/
theorem Y0_isK {P : Rv → List Sl → Prop} : Y0 (isK j) ρ P X = match ρ[j]? with | some (.cel _ (.dK _)) => P (.d .non) ρ | _ => False := by
  unfold Y0 isK
  cases ρ[j]? with
  | none => rfl
  | some s => cases s with
    | cel k c => cases c <;> rfl
    | _ => rfl
theorem Y0_getK {f : List (Key × D) → Option D} : Y0 (getK j f) ρ K X = match ρ[j]? with | some (.cel _ (.dK kvs)) => ∃ d, f kvs = some d ∧ K (.d d) ρ | _ => False := by
  unfold Y0 getK
  cases ρ[j]? with
  | none => rfl
  | some s => cases s with
    | cel k c => cases c with
      | dK kvs =>
        dsimp only
        cases f kvs with
        | none => exact propext ⟨fun h => h.elim, fun ⟨_, e, _⟩ => by cases e⟩
        | some d => exact propext ⟨fun h => ⟨d, rfl, h⟩, fun ⟨_, e, h⟩ => by cases e; exact h⟩
      | _ => rfl
    | _ => rfl
theorem Y0_dget : Y0 (evDGet j m) ρ K X = match ρ[j]? with | some (.cel _ (.dK _)) => Y0 (dat m) ρ (fun k ρ1 => match ρ1[j]? with | some (.cel _ (.dK kvs)) => ∃ d, k.key.bind (dval kvs) = some d ∧ K (.d d) ρ1 | _ => False) X | _ => False := by
  unfold evDGet
  rw [Y0_bnd, Y0_isK]
  simp only [Y0_bnd, Y0_getK]
theorem Y0_dget2 : Y0 (evDGet2 j m a) ρ K X = match ρ[j]? with | some (.cel _ (.dK _)) => Y0 (dat m) ρ (fun k ρ1 => Y0 (dat a) ρ1 (fun d ρ2 => match ρ2[j]? with | some (.cel _ (.dK kvs)) => ∃ z, k.key.map (fun k => (dval kvs k).getD d) = some z ∧ K (.d z) ρ2 | _ => False) X) X | _ => False := by
  unfold evDGet2
  rw [Y0_bnd, Y0_isK]
  simp only [Y0_bnd, Y0_getK]
theorem Y0_dput : Y0 (evDPut j m a) ρ KF X = Y0 (dat a) ρ (fun d ρ1 => match ρ1[j]? with | some (.cel _ (.dK _)) => Y0 (dat m) ρ1 (fun k ρ2 => (match ρ2[j]? with | some (.cel c (.dK kvs)) => ∃ k', k.key = some k' ∧ kvs.length < 16777216 ∧ KF .nx (ρ2.set j (.cel c (.dK (dput kvs k' d)))) | _ => False)) X | _ => False) X := by
  unfold evDPut
  rw [Y0_bnd]; congr 1; funext d ρ1
  rw [Y0_bnd, Y0_isK]
  cases ρ1[j]? with
  | none => rfl
  | some s => cases s with
    | cel k c => cases c with
      | dK kvs =>
        dsimp only
        rw [Y0_bnd]; congr 1; funext kk ρ2
        unfold Y0
        dsimp only
        generalize ρ2[j]? = z
        cases z with
        | none => rfl
        | some s => cases s with
          | cel k c => cases c with
            | dK kvs =>
              dsimp only
              cases kk.key with
              | none => exact propext ⟨fun h => h.elim, fun ⟨_, e, _⟩ => (by cases e)⟩
              | some k' =>
                dsimp only
                by_cases h : kvs.length < 16777216
                · rw [if_pos h]; exact propext ⟨fun q => ⟨k', rfl, h, q⟩, fun ⟨_, e, _, q⟩ => by cases e; exact q⟩
                · rw [if_neg h]; exact propext ⟨fun q => q.elim, fun ⟨_, _, q, _⟩ => h q⟩
            | _ => rfl
          | _ => rfl
      | _ => rfl
    | _ => rfl
theorem Y0_sortDR : Y0 (evSortDR j) ρ K X = match ρ[j]? with | some (.cel _ (.dK kvs)) => ∃ ks, keysI kvs = some ks ∧ K (.c (.lst ((down ks).map D.int))) ρ | _ => False := by
  unfold Y0 evSortDR
  cases ρ[j]? with
  | none => rfl
  | some s => cases s with
    | cel k c => cases c with
      | dK kvs =>
        dsimp only
        cases keysI kvs with
        | none => exact propext ⟨fun h => h.elim, fun ⟨_, e, _⟩ => by cases e⟩
        | some d => exact propext ⟨fun h => ⟨d, rfl, h⟩, fun ⟨_, e, h⟩ => by cases e; exact h⟩
      | _ => rfl
    | _ => rfl
theorem dval_put {kvs : List (Key × D)} {k k' : Key} {d : D} : dval (dput kvs k d) k' = if k' = k then some d else dval kvs k' := by
  induction kvs with
  | nil =>
    unfold dput dval
    by_cases e : k' = k
    · subst e; simp
    · simp [e, Ne.symm e]
  | cons p r ih =>
    obtain ⟨k0, d0⟩ := p
    by_cases e0 : k0 = k
    · subst e0
      have : dput ((k0, d0) :: r) k0 d = (k0, d) :: r.map (fun kv => if kv.1 = k0 then (kv.1, d) else kv) := by unfold dput; simp
      rw [this]
      by_cases e : k' = k0
      · subst e; simp [dval]
      · rw [if_neg e]
        have rest : dval (r.map (fun kv => if kv.1 = k0 then (kv.1, d) else kv)) k' = dval r k' := by
          clear ih this
          induction r with
          | nil => rfl
          | cons q r ih =>
            obtain ⟨k1, d1⟩ := q
            by_cases e1 : k1 = k'
            · subst e1; simp [dval, e]
            · by_cases e2 : k1 = k0
              · subst e2; simpa [dval, e1] using ih
              · simpa [dval, e1, e2] using ih
        have : ∀ (d : D) (l : List (Key × D)), dval ((k0, d) :: l) k' = dval l k' := fun d l => by simp [dval, Ne.symm e]
        rw [this, this, rest]
    · have : dput ((k0, d0) :: r) k d = (k0, d0) :: dput r k d := by
        unfold dput
        simp only [List.any_cons, e0, decide_false, Bool.false_or]
        split <;> simp [e0]
      rw [this]
      by_cases e1 : k0 = k'
      · subst e1; simp [dval, e0]
      · have : ∀ (l : List (Key × D)), dval ((k0, d0) :: l) k' = dval l k' := fun l => by simp [dval, e1]
        rw [this, this, ih]
theorem dput_in {kvs : List (Key × D)} {k : Key} {v : D} (h : k ∈ kvs.map (·.1)) : (dput kvs k v).map (·.1) = kvs.map (·.1) := by
  unfold dput
  have h1 : (kvs.any fun kv => decide (kv.1 = k)) = true := by
    rw [List.any_eq_true]
    obtain ⟨kv, a, b⟩ := List.mem_map.mp h
    exact ⟨kv, a, by simp [b]⟩
  rw [if_pos h1, List.map_map]
  refine List.map_congr_left fun kv _ => ?_
  show (if kv.1 = k then (kv.1, v) else kv).1 = kv.1
  split <;> rfl
theorem dput_out {kvs : List (Key × D)} {k : Key} {v : D} (h : ¬ k ∈ kvs.map (·.1)) : (dput kvs k v).map (·.1) = kvs.map (·.1) ++ [k] := by
  unfold dput
  have h1 : ¬ (kvs.any fun kv => decide (kv.1 = k)) = true := by
    rw [List.any_eq_true]
    rintro ⟨kv, a, b⟩
    exact h (List.mem_map.mpr ⟨kv, a, by simpa using b⟩)
  rw [if_neg h1, List.map_append]
  rfl
theorem keysI_of : ∀ {kvs : List (Key × D)} {ws : List Int}, kvs.map (·.1) = ws.map Sum.inl → keysI kvs = some ws
  | [], ws, h => by cases ws with
    | nil => rfl
    | cons => cases h
  | (k, d) :: kvs, ws, h => by
    cases ws with
    | nil => cases h
    | cons w ws =>
      (rw [List.map_cons, List.map_cons] at h)
      injection h with h1 h2
      have h1 : k = Sum.inl w := h1
      subst h1
      show (keysI kvs).map (w :: ·) = _
      rw [keysI_of h2]
      rfl
theorem Y0_asgN {d : D} : Y0 (asgT (.n i) d) ρ KF X = Y0 (setD i d) ρ KF X := id rfl
theorem Y0_itL {KI : List D → List Sl → Prop} : Y0 (itL m) ρ KI X = Y0 (dat m) ρ (fun d ρ1 => ∃ xs, d.litems = some xs ∧ KI xs ρ1) X := by unfold itL; rw [Y0_bnd]; congr 1; funext d ρ1; rw [Y0_opt]
theorem Y0_itT {KI : List D → List Sl → Prop} : Y0 (itT m) ρ KI X = Y0 (dat m) ρ (fun d ρ1 => ∃ xs, d.titems = some xs ∧ KI xs ρ1) X := by unfold itT; rw [Y0_bnd]; congr 1; funext d ρ1; rw [Y0_opt]
theorem Y0_itET {KI : List D → List Sl → Prop} : Y0 (itET m) ρ KI X = Y0 (dat m) ρ (fun d ρ1 => match d with | .tup xs => KI (enumD xs) ρ1 | _ => False) X := by
  unfold itET; rw [Y0_bnd]; congr 1; funext d ρ1
  cases d <;> rfl
theorem Y0_itEL {KI : List D → List Sl → Prop} : Y0 (itEL m) ρ KI X = Y0 (dat m) ρ (fun d ρ1 => match d with | .lst xs => KI (enumD xs) ρ1 | .sq xs => KI (enumD xs) ρ1 | _ => False) X := by
  unfold itEL; rw [Y0_bnd]; congr 1; funext d ρ1
  cases d <;> rfl
theorem Y0_Txm {g : Str → List D → Option D} {o : Ev} {es : List DE} : Y0 (evTxm g o es) ρ K X = Y0 (dat o) ρ (fun x ρ1 => match x with | .str a => Y0 (evDs es) ρ1 (fun ds ρ2 => ∃ z, g a ds = some z ∧ K (.d z) ρ2) X | _ => False) X := by
  unfold evTxm; rw [Y0_bnd]; congr 1; funext x ρ1
  cases x <;> try rfl
  rename_i a
  dsimp only
  rw [Y0_bnd]; congr 1; funext ds ρ2
  rw [Y0_opt]
  cases g a ds with
  | none => exact propext ⟨fun ⟨_, e, _⟩ => (by cases e), fun ⟨_, e, _⟩ => (by cases e)⟩
  | some z => exact propext ⟨fun ⟨_, e, k⟩ => (by cases e; exact ⟨z, rfl, k⟩), fun ⟨_, e, k⟩ => (by cases e; exact ⟨_, rfl, k⟩)⟩
theorem Y0_cnt {o e : Ev} : Y0 (evCnt o e) ρ K X = Y0 (dat o) ρ (fun x ρ1 => match x with | .str a => Y0 (dat e) ρ1 (fun y ρ2 => match y with | .str b => K (.d (.int (Txt.count a b))) ρ2 | _ => False) X | _ => False) X := by
  unfold evCnt; rw [Y0_bnd]; congr 1; funext x ρ1
  cases x <;> try rfl
  dsimp only
  rw [Y0_bnd]; congr 1; funext y ρ2
  cases y <;> rfl
theorem Y0_itZ {KI : List D → List Sl → Prop} : Y0 (itZ a b) ρ KI X = Y0 (dat a) ρ (fun d ρ1 => Y0 (dat b) ρ1 (fun d2 ρ2 => match d, d2 with | .lst xs, .lst ys => KI (zipD xs ys) ρ2 | .tup xs, .tup ys => KI (zipD xs ys) ρ2 | _, _ => False) X) X := by
  unfold itZ; rw [Y0_bnd]; congr 1; funext d ρ1
  rw [Y0_bnd]; congr 1; funext d2 ρ2
  cases d <;> cases d2 <;> rfl
theorem Y0_itZS {KI : List D → List Sl → Prop} : Y0 (itZS a b) ρ KI X = Y0 (dat a) ρ (fun d ρ1 => Y0 (dat b) ρ1 (fun d2 ρ2 => match d, d2 with | .str s, .str t => KI (zipD (chars s) (chars t)) ρ2 | _, _ => False) X) X := by
  unfold itZS; rw [Y0_bnd]; congr 1; funext d ρ1
  rw [Y0_bnd]; congr 1; funext d2 ρ2
  cases d <;> cases d2 <;> rfl
theorem Y0_itR3 {KI : List D → List Sl → Prop} {c : Ev} : Y0 (itR3 a b c) ρ KI X = Y0 (dat a) ρ (fun d ρ1 => Y0 (dat b) ρ1 (fun d2 ρ2 => Y0 (dat c) ρ2 (fun d3 ρ3 => match d, d2, d3 with | .int i, .int j, .int k => stepOk i j k ∧ KI (rng3D i k (Builtin.Range.rangeSize i j k).toNat) ρ3 | _, _, _ => False) X) X) X := by
  unfold itR3; rw [Y0_bnd]; congr 1; funext d ρ1
  rw [Y0_bnd]; congr 1; funext d2 ρ2
  rw [Y0_bnd]; congr 1; funext d3 ρ3
  cases d <;> first | rfl | (cases d2 <;> first | rfl | (cases d3 <;> try rfl))
  dsimp only
  rw [Y0_if]
  split
  · rename_i h; simp only [h, true_and]; rfl
  · rename_i h; simp only [h, false_and]; rfl
theorem Y0_itS {KI : List D → List Sl → Prop} : Y0 (itS m) ρ KI X = Y0 (dat m) ρ (fun d ρ1 => ∃ xs, d.sitems = some xs ∧ KI xs ρ1) X := by
  unfold itS; rw [Y0_bnd]; congr 1; funext d ρ1; rw [Y0_opt]
theorem Y0_join : Y0 (evJoin a b) ρ K X = Y0 (dat a) ρ (fun x ρ1 => match x with | .str z => Y0 (dat b) ρ1 (fun d ρ2 => ∃ r, dJoin z d = some r ∧ K (.d r) ρ2) X | _ => False) X := by
  unfold evJoin; rw [Y0_bnd]; congr 1; funext x ρ1
  cases x <;> try rfl
  dsimp only
  rw [Y0_bnd]; congr 1; funext d ρ2; rw [Y0_opt]
  exact propext ⟨fun ⟨r, e, k⟩ => by obtain ⟨z, e1, e2⟩ := map_some e; subst e2; exact ⟨z, e1, k⟩, fun ⟨z, e, k⟩ => ⟨_, by rw [e]; rfl, k⟩⟩
theorem Y0_xf {c : Cl} : Y0 (evXf i c) ρ K X = match ρ[i]? with | some (.exn c' (some d)) => c' = c ∧ K (.d d) ρ | _ => False := by
  unfold Y0 evXf
  cases ρ[i]? with
  | none => rfl
  | some s => cases s with
    | exn c' pl => cases pl with
      | none => rfl
      | some d =>
        dsimp only
        by_cases h : c' = c
        · rw [if_pos h]; simp only [h, true_and]
        · rw [if_neg h]; simp only [h, false_and]
    | _ => rfl
theorem Y0_itR1 {KI : List D → List Sl → Prop} : Y0 (itR1 m) ρ KI X = Y0 (dat m) ρ (fun d ρ1 => match d with | .int j => (-(2 ^ 62) ≤ j ∧ j < 2 ^ 62) ∧ KI (rngD 0 j.toNat) ρ1 | _ => False) X := by
  unfold itR1; rw [Y0_bnd]; congr 1; funext d ρ1
  cases d <;> try rfl
  dsimp only
  rw [Y0_if]
  split
  · rename_i h; simp only [h, true_and]; rfl
  · rename_i h; simp only [h, false_and]; rfl
theorem Y0_itR2 {KI : List D → List Sl → Prop} : Y0 (itR2 a b) ρ KI X = Y0 (dat a) ρ (fun d ρ1 => Y0 (dat b) ρ1 (fun d2 ρ2 => match d, d2 with | .int i, .int j => (-(2 ^ 62) ≤ i ∧ i < 2 ^ 62 ∧ -(2 ^ 62) ≤ j ∧ j < 2 ^ 62) ∧ KI (rngD i (j - i).toNat) ρ2 | _, _ => False) X) X := by
  unfold itR2; rw [Y0_bnd]; congr 1; funext d ρ1
  rw [Y0_bnd]; congr 1; funext d2 ρ2
  cases d <;> cases d2 <;> try rfl
  dsimp only
  rw [Y0_if]
  split
  · rename_i h; simp only [h, true_and]; rfl
  · rename_i h; simp only [h, false_and]; rfl
end
end PL
end
section
namespace PL
open PySem PySem.Spec PyProof.Rows L2
/-! ### the same, closed: simp stays out of what comes behind -/
structure Lck {α : Type} (K : α → List Sl → Prop) (X : XC) : Type where
@[irreducible] def Y {α : Type} (m : M α) (ρ : List Sl) (K : α → List Sl → Prop) (X : XC) (_ : Lck K X := ⟨⟩) : Prop := Y0 m ρ K X
theorem Y_eq {α : Type} {m : M α} {ρ : List Sl} {K : α → List Sl → Prop} {X : XC} {l : Lck K X} : Y m ρ K X l = Y0 m ρ K X := by unfold Y; rfl
section
variable {α β : Type} {ρ : List Sl} {X X' : XC}
theorem Y.mono {m : M α} {K K' : α → List Sl → Prop} (h : Y m ρ K X) (k : ∀ a ρ1, K a ρ1 → K' a ρ1) (x : ∀ c pl ρ1, X c pl ρ1 → X' c pl ρ1) : Y m ρ K' X' := by
  simp only [Y_eq] at *
  exact Y0.mono h k x
theorem Y.mk {m : M α} {K : α → List Sl → Prop} (h : Y m ρ K NX) : ∃ a ρ1, m ρ = some (.ok a, ρ1) ∧ K a ρ1 := by
  simp only [Y_eq] at *
  exact Y0.mk h
theorem Y.of {m : M α} {K : α → List Sl → Prop} {a : α} {ρ1 : List Sl} (e : m ρ = some (.ok a, ρ1)) (h : K a ρ1) : Y m ρ K X := by
  simp only [Y_eq] at *
  exact Y0.of e h
variable {K : α → List Sl → Prop}
theorem Y_pur {a : α} : Y (pur a) ρ K X = K a ρ := by
  simp only [Y_eq]
  exact Y0_pur
theorem Y_fai : Y (fai : M α) ρ K X = False := by
  simp only [Y_eq]
  exact Y0_fai
theorem Y_bnd {m : M β} {k : β → M α} : Y (bnd m k) ρ K X = Y m ρ (fun a ρ1 => Y (k a) ρ1 K X) X := by
  simp only [Y_eq]
  exact Y0_bnd
theorem Y_noEr {m : M α} : Y (noEr m) ρ K X = Y m ρ K NX := by
  simp only [Y_eq]
  exact Y0_noEr
end
section
variable {ρ : List Sl} {X : XC} {K : Rv → List Sl → Prop} {KD : D → List Sl → Prop} {KB : Bool → List Sl → Prop} {KF : Fl → List Sl → Prop} {m a b c : Ev} {s t : M Fl} {u v : M Bool} {i j n : Nat}
theorem Y_vD {d : D} : Y (vD d) ρ K X = K (.d d) ρ := by
  simp only [Y_eq]
  exact Y0_vD
theorem Y_evV : Y (evV i) ρ K X = match ρ[i]? with | some (.dat d) => K (.d d) ρ | _ => False := by
  simp only [Y_eq]
  exact Y0_evV
theorem Y_evF : Y (evF i) ρ K X = match ρ[i]? with | some (.dat d) => K (.d d) ρ | some (.cel .own c) => (match c.froz with | some d => K (.d d) (ρ.set i (.dat d)) | none => False) | _ => False := by
  simp only [Y_eq]
  exact Y0_evF
theorem Y_evM : Y (evM i) ρ K X = match ρ[i]? with | some (.dat d) => K (.d d) ρ | some (.cel .own c) => K (.c c) (ρ.set i .un) | _ => False := by
  simp only [Y_eq]
  exact Y0_evM
theorem Y_dat : Y (dat m) ρ KD X = Y m ρ (fun r ρ1 => match r with | .d d => KD d ρ1 | .c c => ∃ d, c.froz = some d ∧ KD d ρ1) X := by
  simp only [Y_eq]
  exact Y0_dat
theorem Y_tst : Y (tst m) ρ KB X = Y (dat m) ρ (fun d ρ1 => match d with | .bl b => KB b ρ1 | _ => False) X := by
  simp only [Y_eq]
  exact Y0_tst
theorem Y_ev2 {g : D → D → Option D} : Y (ev2 g a b) ρ K X = Y (dat a) ρ (fun x ρ1 => Y (dat b) ρ1 (fun y ρ2 => ∃ z, g x y = some z ∧ K (.d z) ρ2) X) X := by
  simp only [Y_eq]
  exact Y0_ev2
theorem Y_ev2c {g : D → D → Option CC} : Y (ev2c g a b) ρ K X = Y (dat a) ρ (fun x ρ1 => Y (dat b) ρ1 (fun y ρ2 => ∃ z, g x y = some z ∧ K (.c z) ρ2) X) X := by
  simp only [Y_eq]
  exact Y0_ev2c
theorem Y_ev1 {g : D → Option D} : Y (ev1 g a) ρ K X = Y (dat a) ρ (fun x ρ1 => ∃ z, g x = some z ∧ K (.d z) ρ1) X := by
  simp only [Y_eq]
  exact Y0_ev1
theorem Y_seq : Y (evSeq s t) ρ KF X = Y s ρ (fun f ρ1 => match f with | .nx => Y t ρ1 KF X | f => KF f ρ1) X := by
  simp only [Y_eq]
  exact Y0_seq
theorem Y_evIf : Y (evIf u s t) ρ KF X = Y u ρ (fun c ρ1 => if c = true then Y s ρ1 KF X else Y t ρ1 KF X) X := by
  simp only [Y_eq]
  exact Y0_evIf
theorem Y_tNo : Y (tNo u) ρ KB X = Y u ρ (fun c ρ1 => KB (!c) ρ1) X := by
  simp only [Y_eq]
  exact Y0_tNo
theorem Y_tAn : Y (tAn u v) ρ KB X = Y u ρ (fun c ρ1 => if c = true then Y v ρ1 KB X else KB false ρ1) X := by
  simp only [Y_eq]
  exact Y0_tAn
theorem Y_tOo : Y (tOo u v) ρ KB X = Y u ρ (fun c ρ1 => if c = true then KB true ρ1 else Y v ρ1 KB X) X := by
  simp only [Y_eq]
  exact Y0_tOo
theorem Y_vNo : Y (vNo m) ρ K X = Y (tst m) ρ (fun c ρ1 => K (.d (.bl (!c))) ρ1) X := by
  simp only [Y_eq]
  exact Y0_vNo
theorem Y_vAn : Y (vAn a b) ρ K X = Y (tst a) ρ (fun c ρ1 => if c = true then Y (dat b) ρ1 (fun d ρ2 => K (.d d) ρ2) X else K (.d (.bl false)) ρ1) X := by
  simp only [Y_eq]
  exact Y0_vAn
theorem Y_vOo : Y (vOo a b) ρ K X = Y (tst a) ρ (fun c ρ1 => if c = true then K (.d (.bl true)) ρ1 else Y (dat b) ρ1 (fun d ρ2 => K (.d d) ρ2) X) X := by
  simp only [Y_eq]
  exact Y0_vOo
theorem Y_vIf : Y (vIf u a b) ρ K X = Y u ρ (fun c ρ1 => if c = true then Y a ρ1 K X else Y b ρ1 K X) X := by
  simp only [Y_eq]
  exact Y0_vIf
theorem Y_ch2 {g g' : D → D → Option D} : Y (ch2 g g' a b c) ρ K X = Y (dat a) ρ (fun x ρ1 => Y (dat b) ρ1 (fun y ρ2 => ∃ z, g x y = some (.bl z) ∧ if z = true then Y (dat c) ρ2 (fun w ρ3 => ∃ z2, g' y w = some z2 ∧ K (.d z2) ρ3) X else K (.d (.bl false)) ρ2) X) X := by
  simp only [Y_eq]
  exact Y0_ch2
theorem Y_ch3 {g g' g'' : D → D → Option D} {d : Ev} : Y (ch3 g g' g'' a b c d) ρ KB X = Y (dat a) ρ (fun x ρ1 => Y (dat b) ρ1 (fun y ρ2 => ∃ z, g x y = some (.bl z) ∧ if z = true then Y (dat c) ρ2 (fun w ρ3 => ∃ z2, g' y w = some (.bl z2) ∧ if z2 = true then Y (dat d) ρ3 (fun q ρ4 => ∃ z3, g'' w q = some (.bl z3) ∧ KB z3 ρ4) X else KB false ρ3) X else KB false ρ2) X) X := by
  simp only [Y_eq]
  exact Y0_ch3
theorem Y_setD {d : D} : Y (setD i d) ρ KF X = ∃ s, ρ[i]? = some s ∧ canSet s = true ∧ KF .nx (ρ.set i (.dat d)) := by
  simp only [Y_eq]
  exact Y0_setD
theorem Y_setC {d : CC} : Y (PL.setC i d) ρ KF X = ∃ s, ρ[i]? = some s ∧ canSet s = true ∧ KF .nx (ρ.set i (.cel .own d)) := by
  simp only [Y_eq]
  exact Y0_setC
theorem Y_asg : Y (evAsg i m) ρ KF X = Y (dat m) ρ (fun d ρ1 => Y (setD i d) ρ1 KF X) X := by
  simp only [Y_eq]
  exact Y0_asg
theorem Y_asgC : Y (evAsgC i m) ρ KF X = Y m ρ (fun r ρ1 => match r with | .c c => Y (PL.setC i c) ρ1 KF X | .d _ => False) X := by
  simp only [Y_eq]
  exact Y0_asgC
theorem Y_ret : Y (evRet m) ρ KF X = Y m ρ (fun r ρ1 => KF (.rt r) ρ1) X := by
  simp only [Y_eq]
  exact Y0_ret
theorem Y_ex : Y (evEx m) ρ KF X = Y m ρ (fun _ ρ1 => KF .nx ρ1) X := by
  simp only [Y_eq]
  exact Y0_ex
theorem Y_nx : Y evNx ρ KF X = KF .nx ρ := by
  simp only [Y_eq]
  exact Y0_nx
theorem Y_lookE {m : Ev} {K : Rv → List Sl → Prop} : Y (lookE j m) ρ K X = match ρ[j]? with | some (.cel _ (.lst xs)) => Y m (lkS j xs 0 ρ) (fun r _ => Rv.lfreeO r = true ∧ K r ρ) (fun c pl _ => plfree pl = true ∧ X c pl ρ) | _ => False := by
  simp only [Y_eq]
  exact Y0_lookE
theorem Y_look {α : Type} {ok : α → Bool} {m : M α} {K : α → List Sl → Prop} : Y (look j ok m) ρ K X = match ρ[j]? with | some (.cel _ (.lst xs)) => Y m (lkS j xs 0 ρ) (fun r _ => ok r = true ∧ K r ρ) NX | _ => False := by
  simp only [Y_eq]
  exact Y0_look
variable {KS : List D → List Sl → Prop} {KA : List Ar → List Sl → Prop} {es : List DE} {as : List AE}
theorem Y_ds0 : Y (evDs []) ρ KS X = KS [] ρ := by
  simp only [Y_eq]
  exact Y0_ds0
theorem Y_dsE : Y (evDs (.e m :: es)) ρ KS X = Y (dat m) ρ (fun d ρ1 => Y (evDs es) ρ1 (fun ds ρ2 => KS (d :: ds) ρ2) X) X := by
  simp only [Y_eq]
  exact Y0_dsE
theorem Y_dsS : Y (evDs (.s m :: es)) ρ KS X = Y (dat m) ρ (fun d ρ1 => ∃ xs, d.items = some xs ∧ Y (evDs es) ρ1 (fun ds ρ2 => KS (xs ++ ds) ρ2) X) X := by
  simp only [Y_eq]
  exact Y0_dsS
theorem Y_B {g : List D → Option D} : Y (evB g es) ρ K X = Y (evDs es) ρ (fun ds ρ1 => ∃ z, g ds = some z ∧ K (.d z) ρ1) X := by
  simp only [Y_eq]
  exact Y0_B
theorem Y_Bc {g : List D → Option CC} : Y (evBc g es) ρ K X = Y (evDs es) ρ (fun ds ρ1 => ∃ z, g ds = some z ∧ K (.c z) ρ1) X := by
  simp only [Y_eq]
  exact Y0_Bc
theorem Y_tup : Y (evTup es) ρ K X = Y (evDs es) ρ (fun ds ρ1 => ds.length ≤ 16777216 ∧ K (.d (.tup ds)) ρ1) X := by
  simp only [Y_eq]
  exact Y0_tup
theorem Y_lst : Y (evLst es) ρ K X = Y (evDs es) ρ (fun ds ρ1 => ds.length ≤ 16777216 ∧ K (.c (.lst ds)) ρ1) X := by
  simp only [Y_eq]
  exact Y0_lst
theorem Y_bmL {f : List D → List D → Option (D × List D)} : Y (evBmL j f es) ρ K X = match ρ[j]? with
    | some (.cel _ (.lst _)) => Y (evDs es) ρ (fun ds ρ1 => match ρ1[j]? with | some (.cel k (.lst xs)) => ∃ p, f xs ds = some p ∧ K (.d p.1) (ρ1.set j (.cel k (.lst p.2))) | _ => False) X
    | _ => False := by
  simp only [Y_eq]
  exact Y0_bmL
theorem Y_LstRg {a b : Ev} : Y (evLstRg a b) ρ K X = Y (dat a) ρ (fun x ρ1 => Y (dat b) ρ1 (fun y ρ2 => match x, y with
    | .int i, .int j => (-(2 ^ 62) ≤ i ∧ i < 2 ^ 62 ∧ -(2 ^ 62) ≤ j ∧ j < 2 ^ 62 ∧ (j - i).toNat ≤ 2 ^ 24) ∧ K (.c (.lst (rngD i (j - i).toNat))) ρ2
    | _, _ => False) X) X := by
  simp only [Y_eq]
  exact Y0_LstRg
theorem Y_SrtSt {a : Ev} : Y (evSrtSt a) ρ K X = Y (dat a) ρ (fun x ρ1 => match x with
    | .lst xs => ∃ ns, D.ints xs = some ns ∧ ns.length ≤ 60 ∧ K (.c (.lst ((srtI ns).map .int))) ρ1
    | _ => False) X := by
  simp only [Y_eq]
  exact Y0_SrtSt
theorem Y_ixL : Y (evIxL j m) ρ K X = match ρ[j]? with
    | some (.cel _ (.lst _)) => Y (dat m) ρ (fun d ρ1 => match ρ1[j]? with | some (.cel _ (.lst xs)) => (match d with | .int i => ∃ z, atI xs i = some z ∧ K (.d z) ρ1 | _ => False) | _ => False) X
    | _ => False := by
  simp only [Y_eq]
  exact Y0_ixL
theorem Y_setI : Y (evSetI j a b) ρ KF X = Y (dat b) ρ (fun d ρ1 => match ρ1[j]? with
    | some (.cel _ (.lst _)) => Y (dat a) ρ1 (fun i ρ2 => match i with
      | .int i => (match ρ2[j]? with | some (.cel k (.lst xs)) => ∃ n, ixN xs.length i = some n ∧ KF .nx (ρ2.set j (.cel k (.lst (xs.set n d)))) | _ => False)
      | _ => False) X
    | _ => False) X := by
  simp only [Y_eq]
  exact Y0_setI
theorem Y_as0 : Y (evAs []) ρ KA X = KA [] ρ := by
  simp only [Y_eq]
  exact Y0_as0
theorem Y_asE : Y (evAs (.e m :: as)) ρ KA X = Y (dat m) ρ (fun d ρ1 => Y (evAs as) ρ1 (fun ar ρ2 => KA (.d d :: ar) ρ2) X) X := by
  simp only [Y_eq]
  exact Y0_asE
theorem Y_asC : Y (evAs (.c j :: as)) ρ KA X = match ρ[j]? with | some (.cel _ _) => Y (evAs as) ρ (fun ar ρ2 => KA (.c j :: ar) ρ2) X | _ => False := by
  simp only [Y_eq]
  exact Y0_asC
theorem Y_callG {G : Fn} {ar : List Ar} : Y (callG n G ar) ρ K X = ∃ ss, argSl ρ ar = some ss ∧ (ar.length = n ∧ (celsOf ar).Nodup) ∧ Y G ss (fun r ss' => K r (back ρ ar ss')) (fun c pl ss' => X c pl (back ρ ar ss')) := by
  simp only [Y_eq]
  exact Y0_callG
theorem Y_call {G : Fn} {ds : List D} : Y (evCall n G as ds) ρ K X = Y (evAs as) ρ (fun ar ρ1 => Y (callG n G (ar ++ ds.map .d)) ρ1 K X) X := by
  simp only [Y_eq]
  exact Y0_call
theorem Y_call0 {G : Fn} {ds : List D} : Y (evCall0 n G as ds) ρ K X = Y (evAs as) ρ (fun ar ρ1 => Y (callG n G (ar ++ ds.map .d)) ρ1 K NX) X := by
  simp only [Y_eq]
  exact Y0_call0
theorem Y_callN {G : Fn} {c : CC} {ar : List Ar} : Y (callN n G c ar) ρ K X = Y (callG n G (.c ρ.length :: ar)) (ρ ++ [.cel .own c]) (fun r ρ1 => K r (ρ1.take ρ.length)) (fun c pl ρ1 => X c pl (ρ1.take ρ.length)) := by
  simp only [Y_eq]
  exact Y0_callN
theorem Y_CallN {G : Fn} {ds : List D} : Y (evCallN n G m as ds) ρ K X = Y m ρ (fun r ρ1 => match r with | .c c => Y (evAs as) ρ1 (fun ar ρ2 => Y (callN n G c (ar ++ ds.map .d)) ρ2 K X) X | .d _ => False) X := by
  simp only [Y_eq]
  exact Y0_CallN
theorem Y_CallN0 {G : Fn} {ds : List D} : Y (evCallN0 n G m as ds) ρ K X = Y m ρ (fun r ρ1 => match r with | .c c => Y (evAs as) ρ1 (fun ar ρ2 => Y (callN n G c (ar ++ ds.map .d)) ρ2 K NX) X | .d _ => False) X := by
  simp only [Y_eq]
  exact Y0_CallN0
theorem Y_CallC {G : Fn} {c : Cl} : Y (evCallC n G c as) ρ K X = Y (evAs as) ρ (fun ar ρ1 => Y (callG n G (.d (.cl c) :: ar)) ρ1 K NX) X := by
  simp only [Y_eq]
  exact Y0_CallC
theorem Y_CallCS {G : Fn} {c : Cl} : Y (evCallCS n G c as) ρ K X = Y (evAs as) ρ (fun ar ρ1 => Y (callG n G (.d (.cl c) :: ar)) ρ1 K X) X := by
  simp only [Y_eq]
  exact Y0_CallCS
theorem Y_mkL {G : Fn} {c : Cl} : Y (evMkL i n G c as) ρ K X = match ρ[i]? with | some (.dat (.cl c')) => c' = c ∧ Y (evMk n G c as []) ρ K X | _ => False := by
  simp only [Y_eq]
  exact Y0_mkL
theorem Y_BestN {f : Int → Int → Int} {es : List DE} : Y (evBestN f es) ρ K X = Y (evDs es) ρ (fun ds ρ1 => ∃ z, gBestN f ds = some z ∧ K (.d z) ρ1) X := by
  simp only [Y_eq]
  exact Y0_BestN
theorem Y_own2 {G : Fn} {c : Cl} : Y (evOwn2 n G c a b) ρ K X = Y (dat a) ρ (fun d ρ1 => match d with
    | .obj c' xs => c' = c ∧ Y (dat b) ρ1 (fun d2 ρ2 => match d2 with | .obj c2 ys => c2 = c ∧ Y (callG n G [.d (.obj c xs), .d (.obj c ys)]) ρ2 K NX | _ => False) X
    | _ => False) X := by
  simp only [Y_eq]
  exact Y0_own2
theorem Y_own2S {G : Fn} {c : Cl} : Y (evOwn2S n G c a b) ρ K X = Y (dat a) ρ (fun d ρ1 => match d with
    | .obj c' xs => c' = c ∧ Y (dat b) ρ1 (fun d2 ρ2 => match d2 with | .obj c2 ys => c2 = c ∧ Y (callG n G [.d (.obj c xs), .d (.obj c ys)]) ρ2 K X | _ => False) X
    | _ => False) X := by
  simp only [Y_eq]
  exact Y0_own2S
theorem Y_st {k : StK} : Y (evSt k m) ρ K X = Y (dat m) ρ (fun d ρ1 => match d with | .tup xs => K (.d (.tup (k.ap xs))) ρ1 | _ => False) X := by
  simp only [Y_eq]
  exact Y0_st
theorem Y_ownIn {G : Fn} {c : Cl} : Y (evOwnIn n G c a b) ρ K X = Y (dat a) ρ (fun x ρ1 => Y (dat b) ρ1 (fun d ρ2 => match d with
    | .obj c' xs => c' = c ∧ Y (tst (noEr (callG n G [.d (.obj c xs), .d x]))) ρ2 (fun z ρ3 => K (.d (.bl z)) ρ3) X
    | _ => False) X) X := by
  simp only [Y_eq]
  exact Y0_ownIn
theorem Y_ownNin {G : Fn} {c : Cl} : Y (evOwnNin n G c a b) ρ K X = Y (dat a) ρ (fun x ρ1 => Y (dat b) ρ1 (fun d ρ2 => match d with
    | .obj c' xs => c' = c ∧ Y (tst (noEr (callG n G [.d (.obj c xs), .d x]))) ρ2 (fun z ρ3 => K (.d (.bl (!z))) ρ3) X
    | _ => False) X) X := by
  simp only [Y_eq]
  exact Y0_ownNin
theorem Y_callV {G : Fn} {ds : List D} : Y (callV n G ds) ρ K X = ((n ≤ ds.length ∧ ds.length ≤ 1000000) ∧ Y (callG (n + 1) G ((ds.take n).map .d ++ [.d (.tup (ds.drop n))])) ρ K X) := by
  simp only [Y_eq]
  exact Y0_callV
theorem Y_CallV {G : Fn} : Y (evCallV n G as) ρ K X = Y (evAs as) ρ (fun ar ρ1 => ∃ ds, datas ar = some ds ∧ Y (callV n G ds) ρ1 K X) X := by
  simp only [Y_eq]
  exact Y0_CallV
theorem Y_CallV0 {G : Fn} : Y (evCallV0 n G as) ρ K X = Y (evAs as) ρ (fun ar ρ1 => ∃ ds, datas ar = some ds ∧ Y (callV n G ds) ρ1 K NX) X := by
  simp only [Y_eq]
  exact Y0_CallV0
theorem Y_CallVS {G : Fn} : Y (evCallVS n G m) ρ K X = Y (dat m) ρ (fun d ρ1 => ∃ ds, d.items = some ds ∧ Y (callV n G ds) ρ1 K X) X := by
  simp only [Y_eq]
  exact Y0_CallVS
theorem Y_mkG {G : Fn} {c : Cl} {ar : List Ar} : Y (mkG n G c ar) ρ K X = Y (callG n G (.c ρ.length :: ar)) (ρ ++ [.cel .own (.obj c [])]) (fun r ρ1 => match r, ρ1[ρ.length]? with | .d .non, some (.cel .own c') => K (.c c') (ρ1.take ρ.length) | _, _ => False) (fun c pl ρ1 => X c pl (ρ1.take ρ.length)) := by
  simp only [Y_eq]
  exact Y0_mkG
theorem Y_mk {G : Fn} {c : Cl} {ds : List D} : Y (evMk n G c as ds) ρ K X = Y (evAs as) ρ (fun ar ρ1 => Y (mkG n G c (ar ++ ds.map .d)) ρ1 K X) X := by
  simp only [Y_eq]
  exact Y0_mk
theorem Y_mk0 {G : Fn} {c : Cl} {ds : List D} : Y (evMk0 n G c as ds) ρ K X = Y (evAs as) ρ (fun ar ρ1 => Y (mkG n G c (ar ++ ds.map .d)) ρ1 K NX) X := by
  simp only [Y_eq]
  exact Y0_mk0
theorem Y_meth {G : Fn} {c : Cl} : Y (evMeth n G c m as) ρ K X = Y (dat m) ρ (fun d ρ1 => match d with | .obj c' xs => c' = c ∧ Y (evAs as) ρ1 (fun ar ρ2 => Y (callG n G (.d (.obj c' xs) :: ar)) ρ2 K NX) X | _ => False) X := by
  simp only [Y_eq]
  exact Y0_meth
theorem Y_methS {G : Fn} {c : Cl} : Y (evMethS n G c m as) ρ K X = Y (dat m) ρ (fun d ρ1 => match d with | .obj c' xs => c' = c ∧ Y (evAs as) ρ1 (fun ar ρ2 => Y (callG n G (.d (.obj c' xs) :: ar)) ρ2 K X) X | _ => False) X := by
  simp only [Y_eq]
  exact Y0_methS
theorem Y_runB {k : Nat} {ss : List Sl} : Y (runB k s) ss K X = Y s (ss ++ List.replicate k .un) (fun f ρ => match f with | .nx => K (.d .non) (outs ss ρ) | .rt r => K r (outs ss ρ) | _ => False) (fun c pl ρ => X c pl (outs ss ρ)) := by
  simp only [Y_eq]
  exact Y0_runB
theorem Y_run0 {k : Nat} {ss : List Sl} : Y (run0 k s) ss K X = Y s (ss ++ List.replicate k .un) (fun f ρ => match f with | .nx => K (.d .non) (outs ss ρ) | .rt r => K r (outs ss ρ) | _ => False) NX := by
  simp only [Y_eq]
  exact Y0_run0
theorem Y_raise {c : Cl} : Y (evRaise c) ρ KF X = X c none ρ := by
  simp only [Y_eq]
  exact Y0_raise
theorem Y_raiseP {c : Cl} : Y (evRaiseP c m) ρ KF X = Y (dat m) ρ (fun d ρ1 => fmtD d = true ∧ X c (some d) ρ1) X := by
  simp only [Y_eq]
  exact Y0_raiseP
theorem Y_raise1 {c : Cl} : Y (evRaise1 c m) ρ KF X = Y m ρ (fun _ ρ1 => X c none ρ1) X := by
  simp only [Y_eq]
  exact Y0_raise1
theorem Y_for {it : M (List D)} {tg : Tg} : Y (evFor it tg s) ρ KF X = Y it ρ (fun xs ρ1 => Y (loop tg s xs) ρ1 KF X) X := by
  simp only [Y_eq]
  exact Y0_for
theorem Y_isi {tbl : List (TyN × Bool)} : Y (evIsi tbl m) ρ K X = Y (dat m) ρ (fun d ρ1 => ∃ b, (d.tyN.bind fun t => tbl.lookup t) = some b ∧ K (.d (.bl b)) ρ1) X := by
  simp only [Y_eq]
  exact Y0_isi
theorem Y_tTr : Y (tTr m) ρ KB X = Y (dat m) ρ (fun d ρ1 => ∃ b, d.truth = some b ∧ KB b ρ1) X := by
  simp only [Y_eq]
  exact Y0_tTr
theorem Y_fldS {c : Cl} {f : Str} : Y (evFldS c j f m) ρ KF X = Y (dat m) ρ (fun d ρ1 => match ρ1[j]? with | some (.cel k (.obj c' kvs)) => (c' = c ∧ kvs.length < 1000) ∧ KF .nx (ρ1.set j (.cel k (.obj c' (putD f d kvs)))) | _ => False) X := by
  simp only [Y_eq]
  exact Y0_fldS
theorem Y_cut {J : List Sl → Prop} (h : Y s ρ (fun f ρ1 => f = .nx ∧ J ρ1) X) (k : ∀ ρ1, J ρ1 → Y t ρ1 KF X) : Y (evSeq s t) ρ KF X := by
  simp only [Y_eq] at *
  exact Y0_cut h k
theorem Y_loop {tg : Tg} {I : List D → List Sl → Prop} : ∀ {xs : List D} {ρ : List Sl}, I xs ρ → (∀ x r ρ, I (x :: r) ρ → Y (asgT tg x) ρ (fun f ρ1 => f = .nx ∧ Y s ρ1 (fun f ρ2 => match f with | .nx => I r ρ2 | .ct => I r ρ2 | .bk => KF .nx ρ2 | .rt v => KF (.rt v) ρ2) X) NX) → (∀ ρ, I [] ρ → KF .nx ρ) → Y (loop tg s xs) ρ KF X:= fun {xs ρ} h st e => by simp only [Y_eq] at *; exact Y0_loop h st e
theorem Y_asgT {tg : Tg} : Y (evAsgT tg m) ρ KF X = Y (dat m) ρ (fun d ρ1 => Y (asgT tg d) ρ1 (fun f ρ2 => f = .nx ∧ KF .nx ρ2) NX) X := by
  simp only [Y_eq]
  exact Y0_asgT
theorem Y_asgTt {ts : List Tg} {xs : List D} : Y (asgT (.t ts) (.tup xs)) ρ KF X = Y (asgTs ts xs) ρ KF X := by
  simp only [Y_eq]
  exact Y0_asgTt
theorem Y_asgTs0 : Y (asgTs [] []) ρ KF X = KF .nx ρ := by
  simp only [Y_eq]
  exact Y0_asgTs0
theorem Y_asgTsC {t : Tg} {ts : List Tg} {x : D} {xs : List D} : Y (asgTs (t :: ts) (x :: xs)) ρ KF X = Y (evSeq (asgT t x) (asgTs ts xs)) ρ KF X := by
  simp only [Y_eq]
  exact Y0_asgTsC
theorem Y_part0 {KO : Option Int → List Sl → Prop} : Y (dPart none) ρ KO X = KO none ρ := by
  simp only [Y_eq]
  exact Y0_part0
theorem Y_partS {KO : Option Int → List Sl → Prop} : Y (dPart (some m)) ρ KO X = Y (dat m) ρ (fun d ρ1 => match d with | .int i => KO (some i) ρ1 | _ => False) X := by
  simp only [Y_eq]
  exact Y0_partS
theorem Y_sl {l u : Option Ev} : Y (evSl m l u) ρ K X = Y (dat m) ρ (fun d ρ1 => Y (dPart l) ρ1 (fun lo ρ2 => Y (dPart u) ρ2 (fun hi ρ3 => match d with
    | .lst xs => K (.c (.lst (cut xs lo hi))) ρ3
    | .sq xs => K (.c (.lst (cut xs lo hi))) ρ3
    | .tup xs => K (.d (.tup (cut xs lo hi))) ρ3
    | .str z => z.length ≤ 16777216 ∧ K (.d (.str (cutS z lo hi))) ρ3
    | _ => False) X) X) X := by
  simp only [Y_eq]
  exact Y0_sl
theorem Y_rev : Y (evRev m) ρ K X = Y (dat m) ρ (fun d ρ1 => ∃ xs, d.litems = some xs ∧ K (.c (.lst xs.reverse)) ρ1) X := by
  simp only [Y_eq]
  exact Y0_rev
theorem Y_vNoT : Y (vNoT m) ρ K X = Y (dat m) ρ (fun d ρ1 => ∃ b, d.truth = some b ∧ K (.d (.bl (!b))) ρ1) X := by
  simp only [Y_eq]
  exact Y0_vNoT
theorem Y_maxD {es : List DE} : Y (evMaxD es m) ρ K X = Y (evDs es) ρ (fun ds ρ1 => Y (dat m) ρ1 (fun d ρ2 => match d with | .int n => ∃ z, gMaxD n ds = some z ∧ K (.d z) ρ2 | _ => False) X) X := by
  simp only [Y_eq]
  exact Y0_maxD
theorem Y_itO {c : Cl} {KI : List D → List Sl → Prop} : Y (itO c i m) ρ KI X = Y (dat m) ρ (fun d ρ1 => match d with | .obj c' xs => c' = c ∧ (match xs[i]? with | some (.tup ys) => KI ys ρ1 | _ => False) | _ => False) X := by
  simp only [Y_eq]
  exact Y0_itO
theorem Y_lc {vs : List Nat} {it : M (List D)} {tg : Tg} {e : Ev} : Y (evLc vs it tg u e) ρ K X = Y it ρ (fun xs ρ1 => okOwn ρ1 vs = true ∧ Y (lcGo vs tg u e xs []) (wipeR ρ1 vs) (fun acc ρ2 => K (.c (.lst acc)) (restR ρ1 ρ2 vs)) NX) X := by
  simp only [Y_eq]
  exact Y0_lc
theorem Y_lcGo {vs : List Nat} {tg : Tg} {e : Ev} {f : D → Option D} {ρ0 : List Sl} {KS : List D → List Sl → Prop} {P : D → Prop} (st : ∀ (x : D) (acc : List D), P x → acc.length < 16777216 → Y (asgT tg x) ρ0 (fun g ρ1 => g = .nx ∧ Y (noEr u) ρ1 (fun b ρ2 => if b = true then Y (dat (noEr e)) ρ2 (fun d ρ3 => f x = some d ∧ wipeR ρ3 vs = ρ0) NX else f x = none ∧ wipeR ρ2 vs = ρ0) NX) NX) :
    ∀ (xs acc : List D), (∀ x ∈ xs, P x) → acc.length + xs.length ≤ 16777216 → KS (acc ++ xs.filterMap f) ρ0 → Y (lcGo vs tg u e xs acc) ρ0 KS X:= fun xs acc hp hl h => by simp only [Y_eq] at *; exact Y0_lcGo st xs acc hp hl h
theorem Y_lcI {vs : List Nat} {tg : Tg} {e : Ev} {KS : List D → List Sl → Prop} {I : List D → List D → List Sl → Prop} {xs acc : List D} (h : I xs acc ρ)
    (st : ∀ (x : D) (r acc : List D) (ρ : List Sl), I (x :: r) acc ρ → acc.length < 16777216 ∧ Y (asgT tg x) ρ (fun g ρ1 => g = .nx ∧ Y (noEr u) ρ1 (fun b ρ2 => if b = true then Y (dat (noEr e)) ρ2 (fun d ρ3 => I r (acc ++ [d]) (wipeR ρ3 vs)) NX else I r acc (wipeR ρ2 vs)) NX) NX)
    (fin : ∀ (acc : List D) (ρ : List Sl), I [] acc ρ → KS acc ρ) : Y (lcGo vs tg u e xs acc) ρ KS X := by
  simp only [Y_eq] at *
  exact Y0_lcI h st fin
theorem Y_lc2 {vs vs1 : List Nat} {it it1 : M (List D)} {tg tg1 : Tg} {v : M Bool} {e : Ev} : Y (evLc2 vs it tg u it1 vs1 tg1 v e) ρ K X = Y it ρ (fun xs ρ1 => okOwn ρ1 vs = true ∧ Y (lcGo2 vs tg u it1 vs1 tg1 v e xs []) (wipeR ρ1 vs) (fun acc ρ2 => K (.c (.lst acc)) (restR ρ1 ρ2 vs)) NX) X := by
  simp only [Y_eq]
  exact Y0_lc2
theorem Y_Sc2 {vs vs1 : List Nat} {it : M (List D)} {tg tg1 : Tg} {v : M Bool} {lo hi : Int} {e : Ev} : Y (evSc2 vs it tg u lo hi vs1 tg1 v e) ρ K X = Y (evLc2 vs it tg u (pur (rngD lo (hi - lo).toNat)) vs1 tg1 v e) ρ (fun r ρ1 => match r with
    | .c (.lst xs) => ∃ ns, D.ints xs = some ns ∧ ns.length < 4000 ∧ K (.c (.lst ((srtI ns).map .int))) ρ1
    | _ => False) X := by
  simp only [Y_eq]
  exact Y0_Sc2
theorem Y_Rng2 {fa fb : Ev} {k : Int → Int → M Fl} : Y (evRng2 i fa fb k) ρ KF X = Y (dat fa) ρ (fun x ρ1 => Y (dat fb) ρ1 (fun y ρ2 => match x, y with
    | .int lo, .int hi => (-(2 ^ 62) ≤ lo ∧ lo < 2 ^ 62 ∧ -(2 ^ 62) ≤ hi ∧ hi < 2 ^ 62) ∧ ∃ s, ρ2[i]? = some s ∧ canSet s = true ∧ Y (k lo hi) (ρ2.set i .un) KF X
    | _, _ => False) X) X := by
  simp only [Y_eq]
  exact Y0_Rng2
theorem Y_asgX : Y (evAsgX i m) ρ KF X = Y m ρ (fun r ρ1 => match r with | .c c => Y (PL.setC i c) ρ1 KF X | .d d => Y (PL.setD i d) ρ1 KF X) X := by
  simp only [Y_eq]
  exact Y0_asgX
theorem Y.okE {α : Type} {m : M α} {ρ ρ1 : List Sl} {a : α} {K : α → List Sl → Prop} {X : XC} (e : m ρ = some (.ok a, ρ1)) : Y m ρ K X = K a ρ1 := by
  simp only [Y_eq] at *
  exact Y0.okE e
theorem Y.erE {α : Type} {m : M α} {ρ ρ1 : List Sl} {c : Cl} {pl : Option D} {K : α → List Sl → Prop} {X : XC} (e : m ρ = some (.er c pl, ρ1)) : Y m ρ K X = X c pl ρ1 := by
  simp only [Y_eq] at *
  exact Y0.erE e
theorem Y.noE {α : Type} {m : M α} {ρ : List Sl} {K : α → List Sl → Prop} {X : XC} (e : m ρ = none) : Y m ρ K X = False := by
  simp only [Y_eq] at *
  exact Y0.noE e
theorem Y.cg {α : Type} {m m' : M α} {ρ ρ' : List Sl} {K : α → List Sl → Prop} {X : XC} (e : m ρ = m' ρ') : Y m ρ K X = Y m' ρ' K X := by
  simp only [Y_eq] at *
  exact Y0.cg e
theorem Y_suiteA {c : Cl} {pl : Option D} : Y (suiteA i c pl t) ρ KF X = (noExn ρ = true ∧ ∃ z, ρ[i]? = some z ∧ canSet z = true ∧ Y t (ρ.set i (.exn c pl)) (fun f ρ2 => noExn (ρ2.set i .un) = true ∧ KF f (ρ2.set i .un)) NX) := by
  simp only [Y_eq]
  exact Y0_suiteA
theorem Y_tryO {cat : List (Cl × Bool)} : Y (evTryO s cat t) ρ KF X = Y s ρ KF (fun c pl ρ1 => match cat.lookup c with | some true => noExn ρ1 = true ∧ Y t ρ1 (fun f ρ2 => noExn ρ2 = true ∧ KF f ρ2) NX | some false => X c pl ρ1 | none => False) := by
  simp only [Y_eq]
  exact Y0_tryO
theorem Y_tryA {cat : List (Cl × Bool)} : Y (evTryA i s cat t) ρ KF X = Y s ρ KF (fun c pl ρ1 => match cat.lookup c with
    | some true => noExn ρ1 = true ∧ ∃ z, ρ1[i]? = some z ∧ canSet z = true ∧ Y t (ρ1.set i (.exn c pl)) (fun f ρ2 => noExn (ρ2.set i .un) = true ∧ KF f (ρ2.set i .un)) NX
    | some false => X c pl ρ1
    | none => False) := by
  simp only [Y_eq]
  exact Y0_tryA
theorem Y_tryM {cs : List Clp} : Y (evTryM s cs) ρ KF X = Y s ρ KF (fun c pl ρ1 => Y (pick cs c pl) ρ1 KF X) := by
  simp only [Y_eq]
  exact Y0_tryM
theorem Y_pick0 {c : Cl} {pl : Option D} : Y (pick [] c pl) ρ KF X = X c pl ρ := by
  simp only [Y_eq]
  exact Y0_pick0
theorem Y_pickC {c : Cl} {pl : Option D} {cat : List (Cl × Bool)} {cs : List Clp} : Y (pick ((i, cat, t) :: cs) c pl) ρ KF X = match cat.lookup c with
    | some true => Y (suiteA i c pl t) ρ KF X
    | some false => Y (pick cs c pl) ρ KF X
    | none => False := by
  simp only [Y_eq]
  exact Y0_pickC
theorem Y_isE {tbl : List (TyN × Bool)} : Y (evIsE i tbl) ρ K X = match ρ[i]? with | some (.exn c _) => ∃ b, tbl.lookup (.o c) = some b ∧ K (.d (.bl b)) ρ | _ => False := by
  simp only [Y_eq]
  exact Y0_isE
theorem Y_js0 {acc : Str} {KZ : Str → List Sl → Prop} : Y (evJs [] acc) ρ KZ X = KZ acc ρ := by
  simp only [Y_eq]
  exact Y0_js0
theorem Y_jsC {ms : List Ev} {acc : Str} {KZ : Str → List Sl → Prop} : Y (evJs (m :: ms) acc) ρ KZ X = Y (dat m) ρ (fun d ρ1 => match d with | .str y => (acc ++ y).length ≤ 16777216 ∧ Y (evJs ms (acc ++ y)) ρ1 KZ X | _ => False) X := by
  simp only [Y_eq]
  exact Y0_jsC
theorem Y_jn {ms : List Ev} : Y (evJn ms) ρ K X = Y (evJs ms Str.empty) ρ (fun s ρ1 => K (.d (.str s)) ρ1) X := by
  simp only [Y_eq]
  exact Y0_jn
theorem Y_dget : Y (evDGet j m) ρ K X = match ρ[j]? with | some (.cel _ (.dK _)) => Y (dat m) ρ (fun k ρ1 => match ρ1[j]? with | some (.cel _ (.dK kvs)) => ∃ d, k.key.bind (dval kvs) = some d ∧ K (.d d) ρ1 | _ => False) X | _ => False := by
  simp only [Y_eq]
  exact Y0_dget
theorem Y_dget2 : Y (evDGet2 j m a) ρ K X = match ρ[j]? with | some (.cel _ (.dK _)) => Y (dat m) ρ (fun k ρ1 => Y (dat a) ρ1 (fun d ρ2 => match ρ2[j]? with | some (.cel _ (.dK kvs)) => ∃ z, k.key.map (fun k => (dval kvs k).getD d) = some z ∧ K (.d z) ρ2 | _ => False) X) X | _ => False := by
  simp only [Y_eq]
  exact Y0_dget2
theorem Y_dput : Y (evDPut j m a) ρ KF X = Y (dat a) ρ (fun d ρ1 => match ρ1[j]? with | some (.cel _ (.dK _)) => Y (dat m) ρ1 (fun k ρ2 => (match ρ2[j]? with | some (.cel c (.dK kvs)) => ∃ k', k.key = some k' ∧ kvs.length < 16777216 ∧ KF .nx (ρ2.set j (.cel c (.dK (dput kvs k' d)))) | _ => False)) X | _ => False) X := by
  simp only [Y_eq]
  exact Y0_dput
theorem Y_sortDR : Y (evSortDR j) ρ K X = match ρ[j]? with | some (.cel _ (.dK kvs)) => ∃ ks, keysI kvs = some ks ∧ K (.c (.lst ((down ks).map D.int))) ρ | _ => False := by
  simp only [Y_eq]
  exact Y0_sortDR
theorem Y_asgN {d : D} : Y (asgT (.n i) d) ρ KF X = Y (setD i d) ρ KF X := by
  simp only [Y_eq]
  exact Y0_asgN
theorem Y_itL {KI : List D → List Sl → Prop} : Y (itL m) ρ KI X = Y (dat m) ρ (fun d ρ1 => ∃ xs, d.litems = some xs ∧ KI xs ρ1) X := by
  simp only [Y_eq]
  exact Y0_itL
theorem Y_itT {KI : List D → List Sl → Prop} : Y (itT m) ρ KI X = Y (dat m) ρ (fun d ρ1 => ∃ xs, d.titems = some xs ∧ KI xs ρ1) X := by
  simp only [Y_eq]
  exact Y0_itT
theorem Y_itET {KI : List D → List Sl → Prop} : Y (itET m) ρ KI X = Y (dat m) ρ (fun d ρ1 => match d with | .tup xs => KI (enumD xs) ρ1 | _ => False) X := by
  simp only [Y_eq]
  exact Y0_itET
theorem Y_itEL {KI : List D → List Sl → Prop} : Y (itEL m) ρ KI X = Y (dat m) ρ (fun d ρ1 => match d with | .lst xs => KI (enumD xs) ρ1 | .sq xs => KI (enumD xs) ρ1 | _ => False) X := by
  simp only [Y_eq]
  exact Y0_itEL
theorem Y_Txm {g : Str → List D → Option D} {o : Ev} {es : List DE} : Y (evTxm g o es) ρ K X = Y (dat o) ρ (fun x ρ1 => match x with | .str a => Y (evDs es) ρ1 (fun ds ρ2 => ∃ z, g a ds = some z ∧ K (.d z) ρ2) X | _ => False) X := by
  simp only [Y_eq]
  exact Y0_Txm
theorem Y_cnt {o e : Ev} : Y (evCnt o e) ρ K X = Y (dat o) ρ (fun x ρ1 => match x with | .str a => Y (dat e) ρ1 (fun y ρ2 => match y with | .str b => K (.d (.int (Txt.count a b))) ρ2 | _ => False) X | _ => False) X := by
  simp only [Y_eq]
  exact Y0_cnt
theorem Y_itZ {KI : List D → List Sl → Prop} : Y (itZ a b) ρ KI X = Y (dat a) ρ (fun d ρ1 => Y (dat b) ρ1 (fun d2 ρ2 => match d, d2 with | .lst xs, .lst ys => KI (zipD xs ys) ρ2 | .tup xs, .tup ys => KI (zipD xs ys) ρ2 | _, _ => False) X) X := by
  simp only [Y_eq]
  exact Y0_itZ
theorem Y_itZS {KI : List D → List Sl → Prop} : Y (itZS a b) ρ KI X = Y (dat a) ρ (fun d ρ1 => Y (dat b) ρ1 (fun d2 ρ2 => match d, d2 with | .str s, .str t => KI (zipD (chars s) (chars t)) ρ2 | _, _ => False) X) X := by
  simp only [Y_eq]
  exact Y0_itZS
theorem Y_itR3 {KI : List D → List Sl → Prop} {c : Ev} : Y (itR3 a b c) ρ KI X = Y (dat a) ρ (fun d ρ1 => Y (dat b) ρ1 (fun d2 ρ2 => Y (dat c) ρ2 (fun d3 ρ3 => match d, d2, d3 with | .int i, .int j, .int k => stepOk i j k ∧ KI (rng3D i k (Builtin.Range.rangeSize i j k).toNat) ρ3 | _, _, _ => False) X) X) X := by
  simp only [Y_eq]
  exact Y0_itR3
theorem Y_itS {KI : List D → List Sl → Prop} : Y (itS m) ρ KI X = Y (dat m) ρ (fun d ρ1 => ∃ xs, d.sitems = some xs ∧ KI xs ρ1) X := by
  simp only [Y_eq]
  exact Y0_itS
theorem Y_join : Y (evJoin a b) ρ K X = Y (dat a) ρ (fun x ρ1 => match x with | .str z => Y (dat b) ρ1 (fun d ρ2 => ∃ r, dJoin z d = some r ∧ K (.d r) ρ2) X | _ => False) X := by
  simp only [Y_eq]
  exact Y0_join
theorem Y_xf {c : Cl} : Y (evXf i c) ρ K X = match ρ[i]? with | some (.exn c' (some d)) => c' = c ∧ K (.d d) ρ | _ => False := by
  simp only [Y_eq]
  exact Y0_xf
theorem Y_itR1 {KI : List D → List Sl → Prop} : Y (itR1 m) ρ KI X = Y (dat m) ρ (fun d ρ1 => match d with | .int j => (-(2 ^ 62) ≤ j ∧ j < 2 ^ 62) ∧ KI (rngD 0 j.toNat) ρ1 | _ => False) X := by
  simp only [Y_eq]
  exact Y0_itR1
theorem Y_itR2 {KI : List D → List Sl → Prop} : Y (itR2 a b) ρ KI X = Y (dat a) ρ (fun d ρ1 => Y (dat b) ρ1 (fun d2 ρ2 => match d, d2 with | .int i, .int j => (-(2 ^ 62) ≤ i ∧ i < 2 ^ 62 ∧ -(2 ^ 62) ≤ j ∧ j < 2 ^ 62) ∧ KI (rngD i (j - i).toNat) ρ2 | _, _ => False) X) X := by
  simp only [Y_eq]
  exact Y0_itR2
end
end PL
end
section
namespace PL
open PySem PySem.Spec PyProof.Rows L2
theorem pys_ints : ∀ xs : List Int, D.pys (xs.map D.int) = some (xs.map PyData.int)
  | [] => rfl
  | x :: xs => by
    have := pys_ints xs
    rw [List.map_cons, D.pys, this]
    rfl
theorem lay_ints : ∀ xs : List Int, PyData.canLayAll0 (xs.map PyData.int) = true
  | [] => rfl
  | x :: xs => by
    have := lay_ints xs
    rw [List.map_cons, PyData.canLayAll0, this]
    rfl
theorem dep_ints : ∀ xs : List Int, PyData.depthAll (xs.map PyData.int) = 0
  | [] => rfl
  | x :: xs => by
    have := dep_ints xs
    rw [List.map_cons, PyData.depthAll, this]
    rfl
theorem shp_ints (xs : List Int) : SeqAt.shaped (.list (xs.map PyData.int)) = true := by
  have h1 : PyData.canLay0 (.list (xs.map PyData.int)) = true := by rw [PyData.canLay0]; exact lay_ints xs
  have h2 : PyData.depth (.list (xs.map PyData.int)) = 1 := by rw [PyData.depth, dep_ints]
  unfold SeqAt.shaped
  rw [h1, h2]
  rfl
theorem eqv_ints : ∀ xs ys : List Int, PyData.eqvAll (xs.map PyData.int) (ys.map PyData.int) = decide (xs = ys)
  | [], [] => rfl
  | [], _ :: _ => rfl
  | _ :: _, [] => rfl
  | x :: xs, y :: ys => by
    have := eqv_ints xs ys
    rw [List.map_cons, List.map_cons, PyData.eqvAll, this]
    show (x == y && decide (xs = ys)) = _
    (by_cases h1 : x = y <;> by_cases h2 : xs = ys <;> simp [h1, h2])
theorem eqL_ints (xs ys : List Int) : D.eq? (.lst (xs.map D.int)) (.lst (ys.map D.int)) = some (decide (xs = ys)) := by
  have e1 : D.py (.lst (xs.map D.int)) = some (.list (xs.map PyData.int)) := by rw [D.py, pys_ints]; rfl
  have e2 : D.py (.lst (ys.map D.int)) = some (.list (ys.map PyData.int)) := by rw [D.py, pys_ints]; rfl
  have h1 := shp_ints xs
  have h2 := shp_ints ys
  have h3 : PyData.eqv (.list (xs.map PyData.int)) (.list (ys.map PyData.int)) = decide (xs = ys) := by rw [PyData.eqv]; exact eqv_ints xs ys
  show (match D.py (.lst (xs.map D.int)), D.py (.lst (ys.map D.int)) with
    | some x, some y => if SeqAt.shaped x && SeqAt.shaped y then some (PyData.eqv x y) else none
    | _, _ => none) = _
  rw [e1, e2]
  simp [h1, h2, h3]
theorem in_ints (x : Int) (xs : List Int) : dIn (.int x) (.lst (xs.map D.int)) = some (.bl (decide (x ∈ xs))) := by
  unfold dIn dInB
  simp only [D.items, Option.bind_some, D.ints_map, Option.map_some]
  congr 2
  by_cases h : x ∈ xs <;> simp [h]
theorem qe_ii {i j : Int} : D.eq? (.int i) (.int j) = some (decide (i = j)) := id rfl
theorem qe_bb {i j : Bool} : D.eq? (.bl i) (.bl j) = some (i == j) := id rfl
theorem qe_ss {i j : Str} : D.eq? (.str i) (.str j) = some (decide (i = j)) := id rfl
theorem qe_nn : D.eq? .non .non = some true := id rfl
theorem qe_ni {i : Int} : D.eq? .non (.int i) = some false := id rfl
theorem qe_in {i : Int} : D.eq? (.int i) .non = some false := id rfl
theorem qe_nb {i : Bool} : D.eq? .non (.bl i) = some false := id rfl
theorem qe_bn {i : Bool} : D.eq? (.bl i) .non = some false := id rfl
theorem qe_ns {i : Str} : D.eq? .non (.str i) = some false := id rfl
theorem qe_sn {i : Str} : D.eq? (.str i) .non = some false := id rfl
theorem qe_is {i : Int} {s : Str} : D.eq? (.int i) (.str s) = some false := id rfl
theorem qe_si {i : Int} {s : Str} : D.eq? (.str s) (.int i) = some false := id rfl
theorem qe_bs {i : Bool} {s : Str} : D.eq? (.bl i) (.str s) = some false := id rfl
theorem qe_sb {i : Bool} {s : Str} : D.eq? (.str s) (.bl i) = some false := id rfl
theorem at_lt {α : Type} {l : List α} (i : Nat) (h : i < l.length) : atI l (i : Int) = l[i]? := by
  unfold atI ixN
  rw [if_pos (Int.natCast_nonneg i), if_pos (by omega)]
  simp
theorem at_0 {α : Type} {a : α} {l : List α} : atI (a :: l) 0 = some a := at_lt 0 (by simp)
theorem at_1 {α : Type} {a b : α} {l : List α} : atI (a :: b :: l) 1 = some b := at_lt 1 (by simp)
theorem at_2 {α : Type} {a b c : α} {l : List α} : atI (a :: b :: c :: l) 2 = some c := at_lt 2 (by simp)
theorem at_3 {α : Type} {a b c d : α} {l : List α} : atI (a :: b :: c :: d :: l) 3 = some d := at_lt 3 (by simp)
theorem at_4 {α : Type} {a b c d e : α} {l : List α} : atI (a :: b :: c :: d :: e :: l) 4 = some e := at_lt 4 (by simp)
theorem at_5 {α : Type} {a b c d e f : α} {l : List α} : atI (a :: b :: c :: d :: e :: f :: l) 5 = some f := at_lt 5 (by simp)
theorem at_6 {α : Type} {a b c d e f g : α} {l : List α} : atI (a :: b :: c :: d :: e :: f :: g :: l) 6 = some g := at_lt 6 (by simp)
theorem at_7 {α : Type} {a b c d e f g h : α} {l : List α} : atI (a :: b :: c :: d :: e :: f :: g :: h :: l) 7 = some h := at_lt 7 (by simp)
theorem ix_30 : ixN 3 0 = some 0 := by decide
theorem ix_31 : ixN 3 1 = some 1 := by decide
theorem ix_32 : ixN 3 2 = some 2 := by decide
def lk1 (j i : Nat) (xs : List D) (s : Sl) : Sl := match s with | .cel _ _ => if i = j then .dat (.lst xs) else .un | s => s
theorem lkS_c {j i : Nat} {xs : List D} {s : Sl} {r : List Sl} : lkS j xs i (s :: r) = lk1 j i xs s :: lkS j xs (i + 1) r := by cases s <;> rfl
theorem lkS_n {j i : Nat} {xs : List D} : lkS j xs i [] = [] := id rfl
theorem lk1_u {j i : Nat} {xs : List D} : lk1 j i xs .un = .un := id rfl
theorem lk1_d {j i : Nat} {xs : List D} {d : D} : lk1 j i xs (.dat d) = .dat d := id rfl
theorem lk1_x {j i : Nat} {xs : List D} {c : Cl} {d : Option D} : lk1 j i xs (.exn c d) = .exn c d := id rfl
theorem lk1_s {j : Nat} {xs : List D} {k : CK} {c : CC} : lk1 j j xs (.cel k c) = .dat (.lst xs) := if_pos rfl
theorem cs_u : canSet .un = true := id rfl
theorem cs_d {d : D} : canSet (.dat d) = true := id rfl
theorem cs_o {c : CC} : canSet (.cel .own c) = true := id rfl
theorem cs_x {c : Cl} {d : Option D} : canSet (.exn c d) = true := id rfl
theorem lk_b {n m : String} {x : Bool} {r : List (TyN × Bool)} : List.lookup (TyN.b n) ((TyN.b m, x) :: r) = if n = m then some x else List.lookup (TyN.b n) r := by
  rw [List.lookup_cons]
  by_cases e : n = m
  · subst e; simp
  · have : (TyN.b n == TyN.b m) = false := beq_eq_false_iff_ne.mpr fun z => e (by cases z; rfl)
    rw [this, if_neg e]
theorem lk_bo {n : String} {c : Cl} {x : Bool} {r : List (TyN × Bool)} : List.lookup (TyN.b n) ((TyN.o c, x) :: r) = List.lookup (TyN.b n) r := by
  rw [List.lookup_cons]
  have : (TyN.b n == TyN.o c) = false := beq_eq_false_iff_ne.mpr fun z => by cases z
  rw [this]
theorem lk_ob {n : String} {c : Cl} {x : Bool} {r : List (TyN × Bool)} : List.lookup (TyN.o c) ((TyN.b n, x) :: r) = List.lookup (TyN.o c) r := by
  rw [List.lookup_cons]
  have : (TyN.o c == TyN.b n) = false := beq_eq_false_iff_ne.mpr fun z => by cases z
  rw [this]
theorem lk_o {c d : Cl} {x : Bool} {r : List (TyN × Bool)} : List.lookup (TyN.o c) ((TyN.o d, x) :: r) = if c = d then some x else List.lookup (TyN.o c) r := by
  rw [List.lookup_cons]
  by_cases e : c = d
  · subst e; simp
  · have : (TyN.o c == TyN.o d) = false := beq_eq_false_iff_ne.mpr fun z => e (by cases z; rfl)
    rw [this, if_neg e]
theorem lk_c {c d : Cl} {x : Bool} {r : List (Cl × Bool)} : List.lookup c ((d, x) :: r) = if c = d then some x else List.lookup c r := by
  rw [List.lookup_cons]
  by_cases e : c = d
  · subst e; simp
  · have : (c == d) = false := beq_eq_false_iff_ne.mpr e
    rw [this, if_neg e]
theorem ty_n : D.tyN .non = some (.b "NoneType") := id rfl
theorem ty_b {b : Bool} : D.tyN (.bl b) = some (.b "bool") := id rfl
theorem ty_i {i : Int} : D.tyN (.int i) = some (.b "int") := id rfl
theorem ty_s {s : Str} : D.tyN (.str s) = some (.b "str") := id rfl
theorem ty_t {xs : List D} : D.tyN (.tup xs) = some (.b "tuple") := id rfl
theorem ty_l {xs : List D} : D.tyN (.lst xs) = some (.b "list") := id rfl
theorem ty_q {xs : List D} : D.tyN (.sq xs) = some (.b "list") := id rfl
theorem ty_o {c : Cl} {xs : List D} : D.tyN (.obj c xs) = some (.o c) := id rfl
theorem ex_sb {p : Bool} {Q : Bool → Prop} : (∃ z, some (D.bl p) = some (D.bl z) ∧ Q z) = Q p := propext ⟨fun ⟨_, e, q⟩ => by cases e; exact q, fun q => ⟨_, rfl, q⟩⟩
theorem fz_l {xs : List D} : CC.froz (.lst xs) = some (.lst xs) := id rfl
theorem fz_k {kvs : List (Key × D)} : CC.froz (.dK kvs) = some (.dK (kvs.map (·.1)) (kvs.map (·.2))) := id rfl
theorem fz_t {kvs : List (List Key × D)} : CC.froz (.dT kvs) = some (.dT (kvs.map (·.1)) (kvs.map (·.2))) := id rfl
theorem fz_lac {a b : D} : CC.froz (.obj .Lacquer [("a", a), ("b", b)]) = some (.obj .Lacquer [a, b]) := id rfl
theorem fz_cli {a : D} : CC.froz (.obj .Climate [("kinds", a)]) = some (.obj .Climate [a]) := id rfl
theorem fz_wea {a : D} : CC.froz (.obj .Weather [("lengths", a)]) = some (.obj .Weather [a]) := id rfl
theorem fz_rat {a b : D} : CC.froz (.obj .Ratio [("top", a), ("bottom", b)]) = some (.obj .Ratio [a, b]) := id rfl
theorem fz_ste {a : D} : CC.froz (.obj .StepSet [("steps", a)]) = some (.obj .StepSet [a]) := id rfl
theorem fz_web {a b : D} : CC.froz (.obj .StepWeb [("steps", a), ("climate", b)]) = some (.obj .StepWeb [a, b]) := id rfl
theorem fz_sky {a : D} : CC.froz (.obj .SkyWeb [("climate", a)]) = some (.obj .SkyWeb [a]) := id rfl
theorem fz_hab {a b : D} : CC.froz (.obj .Habit [("sight", a), ("rows", b)]) = some (.obj .Habit [a, b]) := id rfl
theorem fz_dia {a : D} : CC.froz (.obj .Diary [("marks", a)]) = some (.obj .Diary [a]) := id rfl
theorem pu_0 {f : Str} {d : D} : putD f d [] = [(f, d)] := id rfl
theorem pu_lac {a b : D} : putD "b" b [("a", a)] = ([("a", a), ("b", b)] : List (Str × D)) := id rfl
theorem pu_rat {a b : D} : putD "bottom" b [("top", a)] = ([("top", a), ("bottom", b)] : List (Str × D)) := id rfl
theorem pu_web {a b : D} : putD "climate" b [("steps", a)] = ([("steps", a), ("climate", b)] : List (Str × D)) := id rfl
theorem pu_hab {a b : D} : putD "rows" b [("sight", a)] = ([("sight", a), ("rows", b)] : List (Str × D)) := id rfl
/-- the signs of hours: true is damp -/
def sg (bs : List Bool) : Str := ⟨(bs.map fun b => if b = true then 35 else 46).toArray⟩
theorem sg_len (bs : List Bool) : (sg bs).length = bs.length := by
  show (List.toArray _).size = _
  (rw [List.size_toArray, List.length_map])
theorem sg_app (a b : List Bool) : sg a ++ sg b = sg (a ++ b) := by
  show (⟨_ ++ _⟩ : Str) = ⟨_⟩
  simp [sg]
theorem sg_dot : ((("." : String) : Str)) = sg [false] := by decide +kernel
theorem sg_hash : ((("#" : String) : Str)) = sg [true] := by decide +kernel
theorem sg_nil : ((("" : String) : Str)) = sg [] := by decide +kernel
theorem sg_inj {a b : List Bool} (h : sg a = sg b) : a = b := by
  have h : (a.map fun b => if b = true then 35 else 46) = (b.map fun b => if b = true then 35 else 46) := by
    have := congrArg (fun s : Str => s.cps.toList) h
    simpa [sg] using this
  rename_i h0
  clear h0
  induction a generalizing b with
  | nil => cases b <;> simp_all
  | cons x a ih =>
    cases b with
    | nil => simp at h
    | cons y b =>
      rw [List.map_cons, List.map_cons, List.cons.injEq] at h
      rw [ih h.2]
      congr 1
      have := h.1
      revert this
      cases x <;> cases y <;> simp
theorem sg_eq {a b : List Bool} : (sg a = sg b) = (a = b) := propext ⟨sg_inj, fun e => by rw [e]⟩
theorem sg_cps (bs : List Bool) : (sg bs).cps.toList = bs.map fun b => if b = true then 35 else 46 := by simp [sg]
theorem sg_ix {bs : List Bool} {i : Nat} (h : i < bs.length) (hl : bs.length ≤ 16777216) : dIx (.str (sg bs)) (.int (i : Int)) = some (.str (sg [bs[i]])) := by
  show (if (sg bs).length ≤ 16777216 then (atI (sg bs).cps.toList (i : Int)).map fun c => D.str ⟨#[c]⟩ else none) = _
  rw [if_pos (by rw [sg_len]; exact hl), sg_cps, at_lt i (by rw [List.length_map]; exact h)]
  simp [h, sg]
theorem sg_ixI {bs : List Bool} {i : Int} (h0 : 0 ≤ i) (h : i < bs.length) (hl : bs.length ≤ 16777216) : dIx (.str (sg bs)) (.int i) = some (.str (sg [bs[i.toNat]'(by omega)])) := by
  (obtain ⟨n, rfl⟩ := Int.eq_ofNat_of_zero_le h0)
  exact sg_ix (by omega) hl
theorem sgx {bs : List Bool} {i : Int} (h0 : 0 ≤ i) (h : i < bs.length) (hl : bs.length ≤ 16777216) : (if bs.length ≤ 16777216 then Option.map (fun c => D.str { cps := #[c] }) (atI (sg bs).cps.toList i) else none) = some (.str (sg [bs[i.toNat]'(by omega)])) := by
  rw [← sg_ixI h0 h hl]
  show _ = (if (sg bs).length ≤ 16777216 then _ else none)
  rw [sg_len]
theorem sg1 {b c : Bool} : (sg [b] = sg [c]) = (b = c) := by rw [sg_eq]; simp
end PL
end
section
namespace PL
open PySem PySem.Spec PyProof.Rows L2
variable {K : PySem.W.Frag} {ct : CT} {W : WX} {X : Cx} {fr : Fr} {F F' H H' : Hp} {σ : L2.St} {ρ : List Sl}
/-! xs = [e, f], two new lists; y = []; z = []; for x in xs: body -- xs nowhere else, the body may change x -/
theorem Rel.holdR {p : Addr} {o : HO} (S : Rel K ct fr F H σ ρ) (f1 : F p = none) (f5 : ∀ (i : Nat) (k : CK) (c : CC), ρ[i]? = some (.cel k c) → σ[i]? ≠ some (some (.ref p))) (ho : H p = some o) : Rel K ct (fr.hold p o) F H σ ρ := by
  refine ⟨S.len, S.fh, fun i s e => ?_, S.dis, fun b x e => ?_, fun b hb h0 => ?_, S.pcs⟩
  · obtain ⟨u, e1, r⟩ := S.slot i s e
    refine ⟨u, e1, SlR.refr r rfl fun q eq ⟨k, c', es⟩ hq => ?_⟩
    subst es
    have ne : q ≠ p := fun z => f5 i k c' e (by rw [e1, eq, z])
    show (if q = p then some o else fr.P q) = none
    rw [if_neg ne]; exact hq
  · have e : (if b = p then some o else fr.P b) = some x := e
    by_cases z : b = p
    · rw [if_pos z] at e; cases e; rw [z]; exact ho
    · rw [if_neg z] at e; exact S.keep b x e
  · by_cases z : b = p
    · rw [z]; exact f1
    · refine S.fro b (fun y => hb ?_) ?_
      · show (if b = p then some o else fr.P b) = none
        rw [if_neg z]; exact y
      · have h0 : (if b = p then none else fr.F0 b) = none := h0
        rw [if_neg z] at h0; exact h0
theorem hold_at {p : Addr} {o : HO} : (fr.hold p o).P p = some o := if_pos rfl
theorem hold_ne {p b : Addr} {o : HO} (h : b ≠ p) : (fr.hold p o).P b = fr.P b := if_neg h
theorem Fresh.unhold {p q : Addr} {o : HO} {c : CC} (h : Fresh K ct.ad (fr.hold q o) F H σ ρ p c) (hq : fr.P q = none) : Fresh K ct.ad fr F H σ ρ p c := by
  obtain ⟨f1, f2, f3, f4, f5⟩ := h
  refine ⟨f1, ?_, f3, f4, f5⟩
  by_cases z : p = q
  · rw [z]; exact hq
  · rw [hold_ne z] at f2; exact f2
theorem RV.unhold {q : Addr} {o : HO} {v : V} {x : Rv} (h : RV K ct.ad (fr.hold q o) F H σ ρ v x) (hq : fr.P q = none) : RV K ct.ad fr F H σ ρ v x := by
  cases x with
  | d d => exact h
  | c c => obtain ⟨p, ev, f⟩ := h; exact ⟨p, ev, f.unhold hq⟩
/-- a second value is made while the first cell is held fast -/
theorem Sat.bndH {D : Ends} {m : Ev} {k : Rv → M Fl} {p : Addr} {c : CC} {o : HO} {Q1 : V → Hp → Prop} (h : Sat K ct W D fr F ρ (PL.bnd m k)) (S : Rel K ct fr F H σ ρ) (f : Fresh K ct.ad fr F H σ ρ p c) (ho : H p = some o)
    (hq : ∀ F1 H1 ρ1 v r, Same F F1 → Rel K ct (fr.hold p o) F1 H1 σ ρ1 → Fresh K ct.ad fr F1 H1 σ ρ1 p c → RV K ct.ad (fr.hold p o) F1 H1 σ ρ1 v r → Sat K ct W D fr F1 ρ1 (k r) → Q1 v H1) : T K ct (RV K ct.ad) W m σ H Q1 := by
  have hp := f.2.1
  refine ⟨fr.hold p o, F, ρ, S.hold f ho, ?_⟩
  obtain ⟨r, ρ', e, q⟩ := h
  unfold PL.bnd at e
  cases em : m ρ with
  | none => rw [em] at e; cases e
  | some x =>
    obtain ⟨r1, ρ1⟩ := x
    rw [em] at e
    refine ⟨r1, ρ1, em, ?_⟩
    cases r1 with
    | er c' pl => cases e; exact fun d F1 H1 s1 S1 pr => q σ d F1 H1 s1 (S1.unhold hp) pr
    | ok a =>
      intro v F1 H1 s1 S1 rr
      exact hq F1 H1 ρ1 v a s1 S1 (S1.heldF f ho s1) rr (Sat.mono ⟨r, ρ', e, q⟩ s1)
/-- the turns -/
def poLast (i : Nat) (c : CC) (b : M Fl) : M Fl := fun ρ => match setC i c ρ with
  | some (.ok .nx, ρ1) => (match b ρ1 with
    | some (.ok (.rt v), ρ2) => some (.ok (.rt v), ρ2)
    | some (.ok _, ρ2) => some (.ok .nx, ρ2)
    | r => r)
  | _ => none
def poOne (i : Nat) (c c2 : CC) (b : M Fl) : M Fl := fun ρ => match setC i c ρ with
  | some (.ok .nx, ρ1) => (match b ρ1 with
    | some (.ok .nx, ρ2) => poLast i c2 b ρ2
    | some (.ok .ct, ρ2) => poLast i c2 b ρ2
    | some (.ok .bk, ρ2) => some (.ok .nx, ρ2)
    | r => r)
  | _ => none
def unS (j : Nat) : M Fl := fun ρ => match ρ[j]? with
  | some (.cel .par _) => none
  | some _ => some (.ok .nx, ρ.set j .un)
  | none => none
/-- j: the list's slot; y, z: the two lists'; i: the walker's -/
def evPo (j y z i : Nat) (fa fb : Ev) (b : M Fl) : M Fl := bnd fa fun r1 => match r1 with
  | .c c1 => bnd fb fun r2 => (match r2 with
    | .c c2 => fun ρ => if y = j ∨ z = j then none else (match unS j ρ with
      | some (.ok .nx, ρ1) => (match setC y (.lst []) ρ1 with
        | some (.ok .nx, ρ2) => (match setC z (.lst []) ρ2 with
          | some (.ok .nx, ρ3) => poOne i c1 c2 b ρ3
          | _ => none)
        | _ => none)
      | _ => none)
    | .d _ => fai)
  | .d _ => fai
theorem setC_some {i : Nat} {c : CC} {ρ : List Sl} {r : Ex Fl} {ρ1 : List Sl} (e : PL.setC i c ρ = some (r, ρ1)) : r = .ok .nx ∧ ρ1 = ρ.set i (.cel .own c) ∧ ∃ s, ρ[i]? = some s ∧ ∀ c, s ≠ .cel .par c := by
  unfold PL.setC at e
  split at e
  · cases e
  · rename_i s hn hs
    cases e
    exact ⟨rfl, rfl, s, hs, hn⟩
  · cases e
end PL
namespace PL
open PySem PySem.Spec PyProof.Rows L2
variable {K : PySem.W.Frag} {ct : CT} {W : WX} {X : Cx} {fr : Fr} {F F' H H' : Hp} {σ : L2.St} {ρ : List Sl}
/-- what the whole has come to, seen from the frame fr -/
def Fin1 (K : PySem.W.Frag) (ct : CT) (W : WX) (D : Ends) (fr : Fr) (F : Hp) (r : Ex Fl) (ρ' : List Sl) : Prop := match r with
  | .ok .nx => ∀ σ' F' H', Same F F' → Rel K ct fr F' H' σ' ρ' → D.nx σ' H'
  | .ok .bk => ∀ σ' F' H', Same F F' → Rel K ct fr F' H' σ' ρ' → D.bk σ' H'
  | .ok .ct => ∀ σ' F' H', Same F F' → Rel K ct fr F' H' σ' ρ' → D.ct σ' H'
  | .ok (.rt x) => ∀ σ' v F' H', Same F F' → Rel K ct fr F' H' σ' ρ' → RV K ct.ad fr F' H' σ' ρ' v x → D.rt v H'
  | .er c pl => ∀ σ' d F' H', Same F F' → Rel K ct fr F' H' σ' ρ' → PlR K ct.ad F' c pl d → W (.ref (ct.ad c)) d σ' H'
theorem Fin1.mono {D : Ends} {r : Ex Fl} {ρ' : List Sl} (h : Fin1 K ct W D fr F r ρ') (s : Same F F') : Fin1 K ct W D fr F' r ρ' := by
  unfold Fin1 at *
  cases r with
  | ok f =>
    cases f with
    | nx => exact fun σ' F1 H1 s1 => h σ' F1 H1 (s.trans s1)
    | bk => exact fun σ' F1 H1 s1 => h σ' F1 H1 (s.trans s1)
    | ct => exact fun σ' F1 H1 s1 => h σ' F1 H1 (s.trans s1)
    | rt x => exact fun σ' v F1 H1 s1 => h σ' v F1 H1 (s.trans s1)
  | er c pl => exact fun σ' d F1 H1 s1 => h σ' d F1 H1 (s.trans s1)
theorem po_loop {i : Nat} {b : M Fl} {c1 c2 : CC} {D : Ends} {p1 p2 L : Addr} {o1 o2 : HO} {r : Ex Fl} {ρ' : List Sl} 
    (e : poOne i c1 c2 b ρ = some (r, ρ')) (q : Fin1 K ct W D fr F r ρ') (hL : fr.P L = none) (n12 : p1 ≠ p2) (n1 : p1 ≠ L) (n2 : p2 ≠ L) (S : Rel K ct (((fr.hold L (.lst [.ref p1, .ref p2])).hold p2 o2).hold p1 o1) F H σ ρ)
    (f1 : Fresh K ct.ad ((fr.hold L (.lst [.ref p1, .ref p2])).hold p2 o2) F H σ ρ p1 c1) (h1 : H p1 = some o1) (f2 : Fresh K ct.ad (fr.hold L (.lst [.ref p1, .ref p2])) F H σ ρ p2 c2) (h2 : H p2 = some o2) :
    ∃ Wv : Nat → Nat → L2.St → Hp → Prop, (∃ m, Wv 0 m σ H) ∧ ∀ k m σ H, Wv k m σ H →
      ((Itl K L).stop k H ∧ D.nx σ H) ∨ ((Itl K L).go k H ∧ ∃ N : L2.St → Hp → Prop, (∀ σ' H', N σ' H' → ∃ m', m' < m ∧ Wv (k + 1) m' σ' H') ∧ ∀ x H', (Itl K L).yld k H x H' → gName i x σ H' fun σ2 H2 => TSt K ct W b { D with nx := N, ct := N, bk := D.nx } σ2 H2) := by
  have pL : (fr.hold L (.lst [.ref p1, .ref p2])).P L = some (.lst [.ref p1, .ref p2]) := hold_at
  have atL : ∀ {F' H' : Hp} {σ' : L2.St} {ρ2 : List Sl}, Rel K ct (fr.hold L (.lst [.ref p1, .ref p2])) F' H' σ' ρ2 → SqL K H' L [.ref p1, .ref p2] := fun S' => SqL.of (S'.keep _ _ pL)
  have p2n : (fr.hold L (.lst [.ref p1, .ref p2])).P p2 = none := f2.2.1
  have p1n : ((fr.hold L (.lst [.ref p1, .ref p2])).hold p2 o2).P p1 = none := f1.2.1
  -- the last turn's end
  have lastEnd : ∀ {F3 : Hp} {ρ3 : List Sl} (e3 : poLast i c2 b ρ3 = some (r, ρ')) (q3 : Fin1 K ct W D fr F3 r ρ') (N : L2.St → Hp → Prop) (hN : ∀ σ' H', D.nx σ' H' → SqL K H' L [.ref p1, .ref p2] → N σ' H') {σ3 : L2.St} {H3 : Hp} (S3 : Rel K ct (fr.hold L (.lst [.ref p1, .ref p2])) F3 H3 σ3 ρ3) (f3 : Fresh K ct.ad (fr.hold L (.lst [.ref p1, .ref p2])) F3 H3 σ3 ρ3 p2 c2),
      TSt K ct W b { D with nx := N, ct := N, bk := D.nx } (σ3.set i (some (.ref p2))) H3 := by
    intro F3 ρ3 e3 q3 N hN σ3 H3 S3 f3
    unfold poLast at e3
    cases es : PL.setC i c2 ρ3 with
    | none => rw [es] at e3; cases e3
    | some x =>
      obtain ⟨rx, ρ4⟩ := x
      obtain ⟨z1, z2, s, hs, hn⟩ := setC_some es
      subst z1 z2
      rw [es] at e3
      dsimp only at e3
      refine ⟨_, F3, _, S3.setC f3 (S3.npar hs hn), ?_⟩
      cases eb : b (ρ3.set i (.cel .own c2)) with
      | none => rw [eb] at e3; cases e3
      | some y =>
        obtain ⟨ry, ρ5⟩ := y
        rw [eb] at e3
        refine ⟨ry, ρ5, eb, ?_⟩
        cases ry with
        | er c pl => cases e3; exact fun σ' d F' H' s' S' pr => q3 σ' d F' H' s' (S'.unhold hL) pr
        | ok fl =>
          cases fl with
          | nx => cases e3; exact fun σ' F' H' s' S' => hN _ _ (q3 σ' F' H' s' (S'.unhold hL)) (atL S')
          | ct => cases e3; exact fun σ' F' H' s' S' => hN _ _ (q3 σ' F' H' s' (S'.unhold hL)) (atL S')
          | bk => cases e3; exact fun σ' F' H' s' S' => q3 σ' F' H' s' (S'.unhold hL)
          | rt x => cases e3; exact fun σ' v F' H' s' S' rv => q3 σ' v F' H' s' (S'.unhold hL) (RV.unhold rv hL)
  refine ⟨fun k m σ' H' => (k = 0 ∧ m = 2 ∧ σ' = σ ∧ H' = H) ∨ (k = 1 ∧ m = 1 ∧ ∃ F3 ρ3, poLast i c2 b ρ3 = some (r, ρ') ∧ Fin1 K ct W D fr F3 r ρ' ∧ Rel K ct ((fr.hold L (.lst [.ref p1, .ref p2])).hold p2 o2) F3 H' σ' ρ3 ∧ Fresh K ct.ad (fr.hold L (.lst [.ref p1, .ref p2])) F3 H' σ' ρ3 p2 c2) ∨ (k = 2 ∧ m = 0 ∧ D.nx σ' H' ∧ SqL K H' L [.ref p1, .ref p2]), ⟨2, .inl ⟨rfl, rfl, rfl, rfl⟩⟩, ?_⟩
  rintro k m σ4 H4 (⟨rfl, rfl, rfl, rfl⟩ | ⟨rfl, rfl, F3, ρ3, e3, q3, S3, f3⟩ | ⟨rfl, rfl, hd, hsq⟩)
  · have S0 := S.unhold p1n
    have sq := atL (S0.unhold p2n)
    refine .inr ⟨⟨_, _, sq, rfl⟩, fun σ' H' => ∃ F3 ρ3, poLast i c2 b ρ3 = some (r, ρ') ∧ Fin1 K ct W D fr F3 r ρ' ∧ Rel K ct ((fr.hold L (.lst [.ref p1, .ref p2])).hold p2 o2) F3 H' σ' ρ3 ∧ Fresh K ct.ad (fr.hold L (.lst [.ref p1, .ref p2])) F3 H' σ' ρ3 p2 c2, fun σ' H' z => ⟨1, by omega, .inr (.inl ⟨rfl, rfl, z⟩)⟩, fun x H' y => ?_⟩
    obtain ⟨eH, ex⟩ := y
    subst eH
    have ex := ex _ sq
    cases ex
    have e9 := e
    unfold poOne at e
    cases es : PL.setC i c1 ρ with
    | none => rw [es] at e; cases e
    | some x =>
      obtain ⟨rx, ρ4⟩ := x
      obtain ⟨z1, z2, s, hs, hn⟩ := setC_some es
      subst z1 z2
      rw [es] at e
      dsimp only at e
      refine ⟨_, F, _, S0.setC f1 (S0.npar hs hn), ?_⟩
      cases eb : b (ρ.set i (.cel .own c1)) with
      | none => rw [eb] at e; cases e
      | some y =>
        obtain ⟨ry, ρ5⟩ := y
        rw [eb] at e
        refine ⟨ry, ρ5, eb, ?_⟩
        have nxt : poLast i c2 b ρ5 = some (r, ρ') → ∀ σ' F' H', Same F F' → Rel K ct ((fr.hold L (.lst [.ref p1, .ref p2])).hold p2 o2) F' H' σ' ρ5 → ∃ F3 ρ3, poLast i c2 b ρ3 = some (r, ρ') ∧ Fin1 K ct W D fr F3 r ρ' ∧ Rel K ct ((fr.hold L (.lst [.ref p1, .ref p2])).hold p2 o2) F3 H' σ' ρ3 ∧ Fresh K ct.ad (fr.hold L (.lst [.ref p1, .ref p2])) F3 H' σ' ρ3 p2 c2 :=
          fun e5 σ' F' H' s' S' => ⟨F', ρ5, e5, q.mono s', S', S'.heldF f2 h2 s'⟩
        cases ry with
        | er c pl => cases e; exact fun σ' d F' H' s' S' pr => q σ' d F' H' s' ((S'.unhold p2n).unhold hL) pr
        | ok fl =>
          cases fl with
          | nx => exact nxt e
          | ct => exact nxt e
          | bk => cases e; exact fun σ' F' H' s' S' => q σ' F' H' s' ((S'.unhold p2n).unhold hL)
          | rt x => cases e; exact fun σ' v F' H' s' S' rv => q σ' v F' H' s' ((S'.unhold p2n).unhold hL) (RV.unhold (RV.unhold rv p2n) hL)
  · have S4 := S3.unhold p2n
    have sq := atL S4
    refine .inr ⟨⟨_, _, sq, rfl⟩, fun σ' H' => D.nx σ' H' ∧ SqL K H' L [.ref p1, .ref p2], fun σ' H' z => ⟨0, by omega, .inr (.inr ⟨rfl, rfl, z⟩)⟩, fun x H' y => ?_⟩
    obtain ⟨eH, ex⟩ := y
    subst eH
    have ex := ex _ sq
    cases ex
    exact lastEnd e3 q3 _ (fun _ _ a b => ⟨a, b⟩) S4 f3
  · exact .inl ⟨⟨_, hsq, Nat.le_refl _⟩, hd⟩
end PL
namespace PL
open PySem PySem.Spec PyProof.Rows L2
variable {K : PySem.W.Frag} {ct : CT} {W : WX} {X : Cx}
theorem Fresh.hold {fr : Fr} {F H : Hp} {σ : L2.St} {ρ : List Sl} {p q : Addr} {o : HO} {c : CC} (h : Fresh K ct.ad fr F H σ ρ p c) (ne : p ≠ q) : Fresh K ct.ad (fr.hold q o) F H σ ρ p c := by
  obtain ⟨f1, f2, f3, f4, f5⟩ := h
  exact ⟨f1, by rw [hold_ne ne]; exact f2, f3, f4, f5⟩
theorem Fresh.setU {fr : Fr} {F H : Hp} {σ : L2.St} {ρ : List Sl} {p : Addr} {c : CC} {j : Nat} {w : Option V} (h : Fresh K ct.ad fr F H σ ρ p c) : Fresh K ct.ad fr F H (σ.set j w) (ρ.set j .un) p c := by
  obtain ⟨f1, f2, f3, f4, f5⟩ := h
  refine ⟨f1, f2, f3, f4, fun i k c' e => ?_⟩
  by_cases z : j = i
  · subst z
    by_cases l : j < ρ.length
    · rw [List.getElem?_set_self l] at e; cases e
    · rw [List.getElem?_eq_none (by rw [List.length_set]; omega)] at e; cases e
  · rw [List.getElem?_set_ne z] at e ⊢
    exact f5 i k c' e
theorem noSl_setC {σ : L2.St} {ρ : List Sl} {p q : Addr} {c0 : CC} {j : Nat} (f5 : ∀ (i : Nat) (k : CK) (c' : CC), ρ[i]? = some (.cel k c') → σ[i]? ≠ some (some (.ref p))) (ne : q ≠ p) : ∀ (i : Nat) (k : CK) (c' : CC), (ρ.set j (.cel .own c0))[i]? = some (.cel k c') → (σ.set j (some (.ref q)))[i]? ≠ some (some (.ref p)) := fun i k c' e => by
  by_cases z : j = i
  · subst z
    by_cases l : j < σ.length
    · rw [List.getElem?_set_self l]
      intro w
      injection w with w; injection w with w; injection w with w
      exact ne w
    · rw [List.getElem?_eq_none (by rw [List.length_set]; omega)]
      simp
  · rw [List.getElem?_set_ne z] at e ⊢
    exact f5 i k c' e
theorem Fresh.setC {fr : Fr} {F H : Hp} {σ : L2.St} {ρ : List Sl} {p q : Addr} {c c0 : CC} {j : Nat} (h : Fresh K ct.ad fr F H σ ρ p c) (ne : q ≠ p) : Fresh K ct.ad fr F H (σ.set j (some (.ref q))) (ρ.set j (.cel .own c0)) p c := by
  obtain ⟨f1, f2, f3, f4, f5⟩ := h
  exact ⟨f1, f2, f3, f4, noSl_setC f5 ne⟩
theorem ss_po {j y z i : Nat} {nj ny nz ni : Str} {ea eb : Expr} {body sts : List Stmt} {fa fb : Ev} {b t : M Fl} {p1 p2 p3 p4 p5 p6 p7 p8 p9 q1 q2 q3 : Pos} (eK : X.K = K) (hp : PassesOwn (model X.prog X.w) X.A X.env X.xe) (hc : X.calm = true) (hN : X.N.Nodup) (hj : X.N[j]? = some nj) (lj : Loc X.env.scope nj) (hy : X.N[y]? = some ny) (ly : Loc X.env.scope ny) (hz : X.N[z]? = some nz) (lz : Loc X.env.scope nz) (hi : X.N[i]? = some ni) (li : Loc X.env.scope ni)
    (pj : PE X (.Name nj p7) (tVar j)) (ha : PE X ea (TP K ct W fa)) (hb : PE X eb (TP K ct W fb)) (hB : PSs X body (TSt K ct W b)) (rest : PSs X sts (TSt K ct W t))
    (s2 : starEach [ea, eb] X.env = (false, eval ea X.env) :: starEach [eb] X.env := by rfl) (s1 : starEach [eb] X.env = (false, eval eb X.env) :: starEach [] X.env := by rfl)
    (w1 : swapsWith (.List [ea, eb] p2) (some (.Name nj p1)) p3.line X.env = pure false := by rfl) (w2 : swapsWith (.List [] p5) (some (.Name ny p4)) p6.line X.env = pure false := by rfl) (w3 : swapsWith (.List [] q2) (some (.Name nz q1)) q3.line X.env = pure false := by rfl)
    (fj : X.fn nj = true ∨ X.env.scope.names.lookup nj = some .local := by first | exact .inl rfl | exact .inr rfl | assumption) (fy : X.fn ny = true ∨ X.env.scope.names.lookup ny = some .local := by first | exact .inl rfl | exact .inr rfl | assumption) (fz : X.fn nz = true ∨ X.env.scope.names.lookup nz = some .local := by first | exact .inl rfl | exact .inr rfl | assumption) (fi : X.fn ni = true ∨ X.env.scope.names.lookup ni = some .local := by first | exact .inl rfl | exact .inr rfl | assumption)
    (plain : ∀ x, foldedSetIterable (.Name nj p7) X.env x = pure x := by intro _; rfl) :
    PSs X (.Assign [.Name nj p1] (.List [ea, eb] p2) p3 :: .Assign [.Name ny p4] (.List [] p5) p6 :: .Assign [.Name nz q1] (.List [] q2) q3 :: .For (.Name ni p8) (.Name nj p7) body [] p9 :: sts) (TSt K ct W (evSeq (evPo j y z i fa fb b) t)) := by
  subst eK
  refine (pss_cons (ps_set hN hj lj (pe_lst (pa_cons ha (pa_cons hb pa_nil s1) s2)) w1 fj) (pss_cons (ps_set hN hy ly (pe_lst pa_nil) w2 fy) (pss_cons (ps_set hN hz lz (pe_lst pa_nil) w3 fz) (pss_cons (ps_for hp hc (pi_list pj) (pg_name hN hi li fi) hB plain) rest)))).imp fun D0 σ H ⟨fr, F, ρ, S, h⟩ => ?_
  have h := h.seq
  refine Sat.bnd X.K ct h S (fun _ _ _ _ z => z) fun F1 H1 ρ1 v1 r1 s1 S1 rv1 h => ?_
  cases r1 with
  | d d => obtain ⟨_, _, e, _⟩ := h; cases e
  | c c1 =>
    obtain ⟨a1, ev, f1⟩ := rv1
    subst ev
    obtain ⟨o1, h1⟩ := f1.2.2.2.1.at
    refine Sat.bndH h S1 f1 h1 fun F2 H2 ρ2 v2 r2 s2 S2 f1 rv2 h => ?_
    cases r2 with
    | d d => obtain ⟨_, _, e, _⟩ := h; cases e
    | c c2 =>
      obtain ⟨a2, ev, f2⟩ := rv2
      subst ev
      have n21 : a2 ≠ a1 := fun q => by have := f2.2.1; rw [q, hold_at] at this; cases this
      have h1 : H2 a1 = some o1 := S2.keep _ _ hold_at
      have SB := S2.unhold f1.2.1
      have f2 := f2.unhold f1.2.1
      obtain ⟨o2, h2⟩ := f2.2.2.2.1.at
      refine ⟨by show 2 ≤ sizeLine; rw [sizeLine_eq]; decide, fun L nL => ?_⟩
      obtain ⟨r, ρ', e, q⟩ := h
      have e : (if y = j ∨ z = j then none else (match unS j ρ2 with
        | some (.ok .nx, ρ1) => (match PL.setC y (.lst []) ρ1 with
          | some (.ok .nx, ρ2) => (match PL.setC z (.lst []) ρ2 with
            | some (.ok .nx, ρ3) => poOne i c1 c2 b ρ3
            | _ => none)
          | _ => none)
        | _ => none)) = some (r, ρ') := e
      by_cases ne : y = j ∨ z = j
      · rw [if_pos ne] at e; cases e
      rw [if_neg ne] at e
      cases eu : unS j ρ2 with
      | none => rw [eu] at e; cases e
      | some x =>
        obtain ⟨rx, ρ3⟩ := x
        have eu2 : rx = .ok .nx ∧ ρ3 = ρ2.set j .un ∧ ∃ s, ρ2[j]? = some s ∧ ∀ c, s ≠ .cel .par c := by
          unfold unS at eu
          split at eu
          · cases eu
          · rename_i s0 hn hs0
            cases eu
            exact ⟨rfl, rfl, s0, hs0, hn⟩
          · cases eu
        obtain ⟨z1, z2, s0, hs0, hn0⟩ := eu2
        subst z1 z2
        rw [eu] at e
        dsimp only at e
        have FL : F2 L = none := SB.nn nL
        have n1L : a1 ≠ L := fun w => by rw [w, nL] at h1; cases h1
        have n2L : a2 ≠ L := fun w => by rw [w, nL] at h2; cases h2
        have nLs : ∀ (i : Nat) (k : CK) (c' : CC), ρ2[i]? = some (.cel k c') → σ[i]? ≠ some (some (.ref L)) := fun i k c' e w => by
          obtain ⟨p, o, w1, w2⟩ := SB.cell_at e
          rw [w] at w1
          cases w1
          rw [nL] at w2; cases w2
        have up3 : Same H2 (upd H2 L (.lst [.ref a1, .ref a2])) := same_up nL
        have S3 := (SB.newC (o := .lst [.ref a1, .ref a2]) nL).setU (i := j) (w := some (.ref L)) (SB.npar hs0 hn0)
        have f1 := (f1.grow (Same.refl _) up3 fun _ _ e => e).setU (j := j) (w := some (.ref L))
        have f2 := (f2.grow (Same.refl _) up3 fun _ _ e => e).setU (j := j) (w := some (.ref L))
        have lj2 : j < σ.length := by rw [SB.len]; exact (List.getElem?_eq_some_iff.mp hs0).1
        have sj : (σ.set j (some (.ref L)))[j]? = some (some (.ref L)) := List.getElem?_set_self lj2
        have nLs : ∀ (i : Nat) (k : CK) (c' : CC), (ρ2.set j .un)[i]? = some (.cel k c') → (σ.set j (some (.ref L)))[i]? ≠ some (some (.ref L)) := fun i k c' e => by
          by_cases w : j = i
          · subst w
            rw [List.getElem?_set_self (by rw [← SB.len]; exact lj2)] at e; cases e
          · rw [List.getElem?_set_ne w] at e ⊢
            exact nLs i k c' e
        have h1 := up3 _ _ h1
        have h2 := up3 _ _ h2
        have hL : (upd H2 L (.lst [.ref a1, .ref a2])) L = some (.lst [.ref a1, .ref a2]) := upd_same
        -- y = []
        refine ⟨Nat.zero_le _, fun Lb nB => ?_⟩
        cases ey : PL.setC y (.lst []) (ρ2.set j .un) with
        | none => rw [ey] at e; cases e
        | some x =>
          obtain ⟨rx, ρ4⟩ := x
          obtain ⟨z1, z2, sy, hsy, hny⟩ := setC_some ey
          subst z1 z2
          rw [ey] at e
          dsimp only at e
          have up4 : Same (upd H2 L (.lst [.ref a1, .ref a2])) (upd (upd H2 L (.lst [.ref a1, .ref a2])) Lb (.lst [])) := same_up nB
          have nBL : Lb ≠ L := fun w => by rw [w, hL] at nB; cases nB
          have nB1 : Lb ≠ a1 := fun w => by rw [w, h1] at nB; cases nB
          have nB2 : Lb ≠ a2 := fun w => by rw [w, h2] at nB; cases nB
          have S4 := (S3.newC (o := .lst []) nB).setC (S3.fresh nB (c := .lst []) ⟨[], upd_same, .nil⟩) (S3.npar hsy hny)
          have f1 := (f1.grow (Same.refl _) up4 fun _ _ e => e).setC (j := y) (q := Lb) (c0 := .lst []) nB1
          have f2 := (f2.grow (Same.refl _) up4 fun _ _ e => e).setC (j := y) (q := Lb) (c0 := .lst []) nB2
          have nLs := noSl_setC (c0 := .lst []) (j := y) nLs nBL
          have sj : ((σ.set j (some (.ref L))).set y (some (.ref Lb)))[j]? = some (some (.ref L)) := by rw [List.getElem?_set_ne (fun w => ne (.inl w))]; exact sj
          have h1 := up4 _ _ h1
          have h2 := up4 _ _ h2
          have hL := up4 _ _ hL
          -- z = []
          refine ⟨Nat.zero_le _, fun Lc nC => ?_⟩
          cases ez : PL.setC z (.lst []) ((ρ2.set j .un).set y (.cel .own (.lst []))) with
          | none => rw [ez] at e; cases e
          | some x =>
            obtain ⟨rx, ρ5⟩ := x
            obtain ⟨z1, z2, sz, hsz, hnz⟩ := setC_some ez
            subst z1 z2
            rw [ez] at e
            dsimp only at e
            have up5 : Same (upd (upd H2 L (.lst [.ref a1, .ref a2])) Lb (.lst [])) (upd (upd (upd H2 L (.lst [.ref a1, .ref a2])) Lb (.lst [])) Lc (.lst [])) := same_up nC
            have nCL : Lc ≠ L := fun w => by rw [w, hL] at nC; cases nC
            have nC1 : Lc ≠ a1 := fun w => by rw [w, h1] at nC; cases nC
            have nC2 : Lc ≠ a2 := fun w => by rw [w, h2] at nC; cases nC
            have S5 := (S4.newC (o := .lst []) nC).setC (S4.fresh nC (c := .lst []) ⟨[], upd_same, .nil⟩) (S4.npar hsz hnz)
            have f1 := (f1.grow (Same.refl _) up5 fun _ _ e => e).setC (j := z) (q := Lc) (c0 := .lst []) nC1
            have f2 := (f2.grow (Same.refl _) up5 fun _ _ e => e).setC (j := z) (q := Lc) (c0 := .lst []) nC2
            have nLs := noSl_setC (c0 := .lst []) (j := z) nLs nCL
            have sj : (((σ.set j (some (.ref L))).set y (some (.ref Lb))).set z (some (.ref Lc)))[j]? = some (some (.ref L)) := by rw [List.getElem?_set_ne (fun w => ne (.inr w))]; exact sj
            have h1 := up5 _ _ h1
            have h2 := up5 _ _ h2
            have hL := up5 _ _ hL
            have nPL : fr.P L = none := SB.np nL
            have SL := S5.holdR FL nLs hL
            have f2L := f2.hold (q := L) (o := .lst [.ref a1, .ref a2]) n2L
            have SBB := SL.hold f2L h2
            have f1L := (f1.hold (q := L) (o := .lst [.ref a1, .ref a2]) n1L).hold (q := a2) (o := o2) (Ne.symm n21)
            have SA := SBB.hold f1L h1
            exact ⟨.ref L, sj, L, rfl, ⟨_, SqL.of hL⟩, po_loop e q nPL (Ne.symm n21) n1L n2L SA f1L h1 f2L h2⟩
end PL
end
namespace DP
open PySem PySem.Spec PyProof.Rows L2 PL
def topS (i : Nat) : Stmt := PySem.Challenge.pw_dampspells_k40_step_sets_and_stands.main.body.getD i (.Pass ⟨0, 0, 0, 0⟩)
abbrev s_f_next_sky : Stmt := topS 12
abbrev N_f_next_sky : List Str := ["climate", "sky", "sign", "word", "many", "before", "left"]
theorem sc_f_next_sky : FnScope ["climate", "sky", "sign", "word", "many", "before", "left"] ["climate", "sky", "sign"] (defScope s_f_next_sky) := ⟨rfl, rfl, rfl, by decide +kernel, rfl, by decide +kernel, by decide +kernel⟩
abbrev s_f_check_kind : Stmt := topS 17
abbrev N_f_check_kind : List Str := ["w", "g"]
theorem sc_f_check_kind : FnScope ["w", "g"] ["w", "g"] (defScope s_f_check_kind) := ⟨rfl, rfl, rfl, by decide +kernel, rfl, by decide +kernel, by decide +kernel⟩
abbrev s_f_check_kinds : Stmt := topS 18
abbrev N_f_check_kinds : List Str := ["kinds", "w", "g"]
theorem sc_f_check_kinds : FnScope ["kinds", "w", "g"] ["kinds"] (defScope s_f_check_kinds) := ⟨rfl, rfl, rfl, by decide +kernel, rfl, by decide +kernel, by decide +kernel⟩
abbrev s_f_plain_list : Stmt := topS 19
abbrev N_f_plain_list : List Str := ["kinds", "least", "w", "g", "plain"]
theorem sc_f_plain_list : FnScope ["kinds", "least", "w", "g", "plain"] ["kinds"] (defScope s_f_plain_list) := ⟨rfl, rfl, rfl, by decide +kernel, rfl, by decide +kernel, by decide +kernel⟩
abbrev s_Climate_init : Stmt := inClass (topS 21) 0
abbrev N_Climate_init : List Str := ["self", "kinds"]
theorem sc_Climate_init : FnScope ["self", "kinds"] ["self", "kinds"] (defScope s_Climate_init) := ⟨rfl, rfl, rfl, by decide +kernel, rfl, by decide +kernel, by decide +kernel⟩
abbrev s_Climate_need : Stmt := inClass (topS 21) 1
abbrev N_Climate_need : List Str := ["self", "w", "g"]
theorem sc_Climate_need : FnScope ["self", "w", "g"] ["self"] (defScope s_Climate_need) := ⟨rfl, rfl, rfl, by decide +kernel, rfl, by decide +kernel, by decide +kernel⟩
abbrev s_Climate_longest : Stmt := inClass (topS 21) 10
abbrev N_Climate_longest : List Str := ["self", "run", "w", "g"]
theorem sc_Climate_longest : FnScope ["self", "run", "w", "g"] ["self", "run"] (defScope s_Climate_longest) := ⟨rfl, rfl, rfl, by decide +kernel, rfl, by decide +kernel, by decide +kernel⟩
abbrev s_f_first_stand : Stmt := topS 23
abbrev N_f_first_stand : List Str := []
theorem sc_f_first_stand : FnScope [] [] (defScope s_f_first_stand) := ⟨rfl, rfl, rfl, by decide +kernel, rfl, by decide +kernel, by decide +kernel⟩
abbrev s_f_next_stand : Stmt := topS 24
abbrev N_f_next_stand : List Str := ["steps", "climate", "stand", "sign", "sky", "ages", "later", "grown", "laid", "age"]
theorem sc_f_next_stand : FnScope ["steps", "climate", "stand", "sign", "sky", "ages", "later", "grown", "laid", "age"] ["steps", "climate", "stand", "sign"] (defScope s_f_next_stand) := ⟨rfl, rfl, rfl, by decide +kernel, rfl, by decide +kernel, by decide +kernel⟩
abbrev s_Lacquer_init : Stmt := inClass (topS 26) 1
abbrev N_Lacquer_init : List Str := ["self", "a", "b"]
theorem sc_Lacquer_init : FnScope ["self", "a", "b"] ["self", "a", "b"] (defScope s_Lacquer_init) := ⟨rfl, rfl, rfl, by decide +kernel, rfl, by decide +kernel, by decide +kernel⟩
abbrev s_StepSet_init : Stmt := inClass (topS 29) 0
abbrev N_StepSet_init : List Str := ["self", "steps"]
theorem sc_StepSet_init : FnScope ["self", "steps"] ["self", "steps"] (defScope s_StepSet_init) := ⟨rfl, rfl, rfl, by decide +kernel, rfl, by decide +kernel, by decide +kernel⟩
abbrev s_StepSet_farthest : Stmt := inClass (topS 29) 1
abbrev N_StepSet_farthest : List Str := ["self"]
theorem sc_StepSet_farthest : FnScope ["self"] ["self"] (defScope s_StepSet_farthest) := ⟨rfl, rfl, rfl, by decide +kernel, rfl, by decide +kernel, by decide +kernel⟩
abbrev s_StepSet_iter : Stmt := inClass (topS 29) 2
abbrev N_StepSet_iter : List Str := ["self"]
theorem sc_StepSet_iter : FnScope ["self"] ["self"] (defScope s_StepSet_iter) := ⟨rfl, rfl, rfl, by decide +kernel, rfl, by decide +kernel, by decide +kernel⟩
abbrev s_StepSet_eq : Stmt := inClass (topS 29) 3
abbrev N_StepSet_eq : List Str := ["self", "other"]
theorem sc_StepSet_eq : FnScope ["self", "other"] ["self", "other"] (defScope s_StepSet_eq) := ⟨rfl, rfl, rfl, by decide +kernel, rfl, by decide +kernel, by decide +kernel⟩
abbrev s_StepSet_contains : Stmt := inClass (topS 29) 4
abbrev N_StepSet_contains : List Str := ["self", "step"]
theorem sc_StepSet_contains : FnScope ["self", "step"] ["self", "step"] (defScope s_StepSet_contains) := ⟨rfl, rfl, rfl, by decide +kernel, rfl, by decide +kernel, by decide +kernel⟩
abbrev s_StepSet_or : Stmt := inClass (topS 29) 5
abbrev N_StepSet_or : List Str := ["self", "other"]
theorem sc_StepSet_or : FnScope ["self", "other"] ["self", "other"] (defScope s_StepSet_or) := ⟨rfl, rfl, rfl, by decide +kernel, rfl, by decide +kernel, by decide +kernel⟩
abbrev s_StepSet_of : Stmt := inClass (topS 29) 6
abbrev N_StepSet_of : List Str := ["lacquer"]
theorem sc_StepSet_of : FnScope ["lacquer"] ["lacquer"] (defScope s_StepSet_of) := ⟨rfl, rfl, rfl, by decide +kernel, rfl, by decide +kernel, by decide +kernel⟩
abbrev s_l_cell : Stmt := topS 31
abbrev N_l_cell : List Str := ["script", "k"]
theorem sc_l_cell : FnScope ["script", "k"] ["script", "k"] (defScope s_l_cell) := ⟨rfl, rfl, rfl, by decide +kernel, rfl, by decide +kernel, by decide +kernel⟩
abbrev s_l_pool : Stmt := topS 32
abbrev N_l_pool : List Str := ["cell"]
theorem sc_l_pool : FnScope ["cell"] ["cell"] (defScope s_l_pool) := ⟨rfl, rfl, rfl, by decide +kernel, rfl, by decide +kernel, by decide +kernel⟩
abbrev s_l_take : Stmt := topS 33
abbrev N_l_take : List Str := ["pool", "size", "digit", "x"]
theorem sc_l_take : FnScope ["pool", "size", "digit", "x"] ["pool", "size"] (defScope s_l_take) := ⟨rfl, rfl, rfl, by decide +kernel, rfl, by decide +kernel, by decide +kernel⟩
abbrev s_l_same : Stmt := topS 34
abbrev N_l_same : List Str := ["actual", "due", "k"]
theorem sc_l_same : FnScope ["actual", "due", "k"] ["actual", "due"] (defScope s_l_same) := ⟨rfl, rfl, rfl, by decide +kernel, rfl, by decide +kernel, by decide +kernel⟩
abbrev s_l_ab : Stmt := topS 35
abbrev N_l_ab : List Str := ["pool", "most", "a"]
theorem sc_l_ab : FnScope ["pool", "most", "a"] ["pool", "most"] (defScope s_l_ab) := ⟨rfl, rfl, rfl, by decide +kernel, rfl, by decide +kernel, by decide +kernel⟩
abbrev s_l_kinds : Stmt := topS 36
abbrev N_l_kinds : List Str := ["pool", "most", "peak", "need", "kinds", "k", "w"]
theorem sc_l_kinds : FnScope ["pool", "most", "peak", "need", "kinds", "k", "w"] ["pool", "most", "peak", "need"] (defScope s_l_kinds) := ⟨rfl, rfl, rfl, by decide +kernel, rfl, by decide +kernel, by decide +kernel⟩
abbrev s_l_longest : Stmt := topS 37
abbrev N_l_longest : List Str := ["kinds", "stretch", "best", "kind"]
theorem sc_l_longest : FnScope ["kinds", "stretch", "best", "kind"] ["kinds", "stretch"] (defScope s_l_longest) := ⟨rfl, rfl, rfl, by decide +kernel, rfl, by decide +kernel, by decide +kernel⟩
abbrev s_l_least_run : Stmt := topS 38
abbrev N_l_least_run : List Str := ["kinds", "w", "best", "kind"]
theorem sc_l_least_run : FnScope ["kinds", "w", "best", "kind"] ["kinds", "w"] (defScope s_l_least_run) := ⟨rfl, rfl, rfl, by decide +kernel, rfl, by decide +kernel, by decide +kernel⟩
abbrev s_l_plain : Stmt := topS 39
abbrev N_l_plain : List Str := ["kinds", "plain", "w", "here"]
theorem sc_l_plain : FnScope ["kinds", "plain", "w", "here"] ["kinds"] (defScope s_l_plain) := ⟨rfl, rfl, rfl, by decide +kernel, rfl, by decide +kernel, by decide +kernel⟩
abbrev s_l_need : Stmt := topS 40
abbrev N_l_need : List Str := ["kinds", "plain"]
theorem sc_l_need : FnScope ["kinds", "plain"] ["kinds"] (defScope s_l_need) := ⟨rfl, rfl, rfl, by decide +kernel, rfl, by decide +kernel, by decide +kernel⟩
abbrev s_l_signs_of : Stmt := topS 41
abbrev N_l_signs_of : List Str := ["pool", "kinds", "hours", "signs", "style", "stretch", "left", "k", "may", "damp"]
theorem sc_l_signs_of : FnScope ["pool", "kinds", "hours", "signs", "style", "stretch", "left", "k", "may", "damp"] ["pool", "kinds", "hours"] (defScope s_l_signs_of) := ⟨rfl, rfl, rfl, by decide +kernel, rfl, by decide +kernel, by decide +kernel⟩
abbrev s_l_sky : Stmt := topS 42
abbrev N_l_sky : List Str := ["kinds", "cap", "sky", "sign", "may"]
theorem sc_l_sky : FnScope ["kinds", "cap", "sky", "sign", "may"] ["kinds", "cap", "sky", "sign"] (defScope s_l_sky) := ⟨rfl, rfl, rfl, by decide +kernel, rfl, by decide +kernel, by decide +kernel⟩
abbrev s_l_ages : Stmt := topS 43
abbrev N_l_ages : List Str := ["steps", "ages", "sign", "new", "x"]
theorem sc_l_ages : FnScope ["steps", "ages", "sign", "new", "x"] ["steps", "ages", "sign"] (defScope s_l_ages) := ⟨rfl, rfl, rfl, by decide +kernel, rfl, by decide +kernel, by decide +kernel⟩
abbrev s_l_stand : Stmt := topS 44
abbrev N_l_stand : List Str := ["steps", "kinds", "cap", "stand", "sign", "sky"]
theorem sc_l_stand : FnScope ["steps", "kinds", "cap", "stand", "sign", "sky"] ["steps", "kinds", "cap", "stand", "sign"] (defScope s_l_stand) := ⟨rfl, rfl, rfl, by decide +kernel, rfl, by decide +kernel, by decide +kernel⟩
abbrev s_l_items : Stmt := topS 45
abbrev N_l_items : List Str := ["pool", "many", "items", "case", "far", "odd", "k"]
theorem sc_l_items : FnScope ["pool", "many", "items", "case", "far", "odd", "k"] ["pool"] (defScope s_l_items) := ⟨rfl, rfl, rfl, by decide +kernel, rfl, by decide +kernel, by decide +kernel⟩
abbrev s_l_made : Stmt := topS 46
abbrev N_l_made : List Str := ["items", "word", "answer", "kin", "e"]
theorem sc_l_made : FnScope ["items", "word", "answer", "kin", "e"] ["items"] (defScope s_l_made) := ⟨rfl, rfl, rfl, by decide +kernel, rfl, by decide +kernel, by decide +kernel⟩
abbrev s_l_of : Stmt := topS 47
abbrev N_l_of : List Str := ["ab", "word", "answer", "kin", "e", "step"]
theorem sc_l_of : FnScope ["ab", "word", "answer", "kin", "e", "step"] ["ab"] (defScope s_l_of) := ⟨rfl, rfl, rfl, by decide +kernel, rfl, by decide +kernel, by decide +kernel⟩
abbrev s_l_is : Stmt := topS 48
abbrev N_l_is : List Str := ["thing", "steps", "step"]
theorem sc_l_is : FnScope ["thing", "steps", "step"] ["thing", "steps"] (defScope s_l_is) := ⟨rfl, rfl, rfl, by decide +kernel, rfl, by decide +kernel, by decide +kernel⟩
abbrev s_l_some_stand : Stmt := topS 49
abbrev N_l_some_stand : List Str := ["pool", "kinds", "cap", "farthest", "sky", "ages", "kind", "x"]
theorem sc_l_some_stand : FnScope ["pool", "kinds", "cap", "farthest", "sky", "ages", "kind", "x"] ["pool", "kinds", "cap", "farthest"] (defScope s_l_some_stand) := ⟨rfl, rfl, rfl, by decide +kernel, rfl, by decide +kernel, by decide +kernel⟩
abbrev s_l_odd_right : Stmt := topS 50
abbrev N_l_odd_right : List Str := ["one", "steps", "kinds", "climate", "cap", "stand", "sign"]
theorem sc_l_odd_right : FnScope ["one", "steps", "kinds", "climate", "cap", "stand", "sign"] ["one", "steps", "kinds", "climate", "cap", "stand"] (defScope s_l_odd_right) := ⟨rfl, rfl, rfl, by decide +kernel, rfl, by decide +kernel, by decide +kernel⟩
abbrev s_l_law : Stmt := topS 51
abbrev N_l_law : List Str := ["script", "pools", "sets", "steps", "pool", "items", "handed", "made", "both", "kinds", "hours", "signs", "climate", "cap", "k", "stand", "h", "step"]
theorem sc_l_law : FnScope ["script", "pools", "sets", "steps", "pool", "items", "handed", "made", "both", "kinds", "hours", "signs", "climate", "cap", "k", "stand", "h", "step"] ["script"] (defScope s_l_law) := ⟨rfl, rfl, rfl, by decide +kernel, rfl, by decide +kernel, by decide +kernel⟩
structure S_DampError (K : PySem.W.Frag) (mg : Str → Option Value) (C : Addr) : Prop where
  mg : (mg "DampError" = some (.ref C))
  x : (PySem.W.excIn K C [.type "ValueError", .type "Exception", .type "BaseException", .type "object"] "ValueError.__new__" = true)
  kp : (PySem.W.keepIn K (.ref C) = true)
  b : (PySem.W.subIn K (.ref C) (.type "BaseException") = some true)
  t : (PySem.W.typeIn K (.ref C) = some (.type "type"))
  i : (PySem.W.isClsIn K C = true)
  s : (PySem.W.subIn K (.ref C) (.ref C) = some true)
  hg : (PySem.W.findIn K (.ref C) "__getattribute__" = some (some (.builtin "BaseException.__getattribute__")))
  hk : (PySem.W.findIn K (.ref C) "__getattr__" = some none)
  hd : (PySem.W.hasDictIn K C = true)
  ha : (PySem.W.findIn K (.ref C) "__class__" = some (some (.builtin "object.__class__")))
  hn : (PySem.W.specialIn K (.builtin "object.__class__") "__get__" = some (some (.builtin "getset_descriptor.__get__")))
  ht : (PySem.W.takesIn K (.builtin "object.__class__") = some true)
  hm : (PySem.W.mroIn K C (.type "object") = some true)
theorem S_DampError.ex {K : PySem.W.Frag} {mg : Str → Option Value} {C : Addr} (T : S_DampError K mg C) : ExcC K C := ⟨T.hg, T.hk, T.b, T.hd, T.ha, T.hn, T.ht, T.hm⟩
theorem S_DampError.te {K : PySem.W.Frag} {mg : Str → Option Value} {C : Addr} (T : S_DampError K mg C) : PySem.W.exmOne K (.ref C) (.ref C) = some true := PySem.W.exm_ref T.b T.hd T.t T.s
structure S_BadLacquer (K : PySem.W.Frag) (mg : Str → Option Value) (C : Addr) : Prop where
  mg : (mg "BadLacquer" = some (.ref C))
  x : (PySem.W.excIn K C [.type "ValueError", .type "Exception", .type "BaseException", .type "object"] "ValueError.__new__" = true)
  kp : (PySem.W.keepIn K (.ref C) = true)
  b : (PySem.W.subIn K (.ref C) (.type "BaseException") = some true)
  t : (PySem.W.typeIn K (.ref C) = some (.type "type"))
  i : (PySem.W.isClsIn K C = true)
  s : (PySem.W.subIn K (.ref C) (.ref C) = some true)
  hg : (PySem.W.findIn K (.ref C) "__getattribute__" = some (some (.builtin "BaseException.__getattribute__")))
  hk : (PySem.W.findIn K (.ref C) "__getattr__" = some none)
  hd : (PySem.W.hasDictIn K C = true)
  ha : (PySem.W.findIn K (.ref C) "__class__" = some (some (.builtin "object.__class__")))
  hn : (PySem.W.specialIn K (.builtin "object.__class__") "__get__" = some (some (.builtin "getset_descriptor.__get__")))
  ht : (PySem.W.takesIn K (.builtin "object.__class__") = some true)
  hm : (PySem.W.mroIn K C (.type "object") = some true)
theorem S_BadLacquer.ex {K : PySem.W.Frag} {mg : Str → Option Value} {C : Addr} (T : S_BadLacquer K mg C) : ExcC K C := ⟨T.hg, T.hk, T.b, T.hd, T.ha, T.hn, T.ht, T.hm⟩
theorem S_BadLacquer.te {K : PySem.W.Frag} {mg : Str → Option Value} {C : Addr} (T : S_BadLacquer K mg C) : PySem.W.exmOne K (.ref C) (.ref C) = some true := PySem.W.exm_ref T.b T.hd T.t T.s
structure S_BadKind (K : PySem.W.Frag) (mg : Str → Option Value) (C : Addr) : Prop where
  mg : (mg "BadKind" = some (.ref C))
  x : (PySem.W.excIn K C [.type "ValueError", .type "Exception", .type "BaseException", .type "object"] "ValueError.__new__" = true)
  kp : (PySem.W.keepIn K (.ref C) = true)
  b : (PySem.W.subIn K (.ref C) (.type "BaseException") = some true)
  t : (PySem.W.typeIn K (.ref C) = some (.type "type"))
  i : (PySem.W.isClsIn K C = true)
  s : (PySem.W.subIn K (.ref C) (.ref C) = some true)
  hg : (PySem.W.findIn K (.ref C) "__getattribute__" = some (some (.builtin "BaseException.__getattribute__")))
  hk : (PySem.W.findIn K (.ref C) "__getattr__" = some none)
  hd : (PySem.W.hasDictIn K C = true)
  ha : (PySem.W.findIn K (.ref C) "__class__" = some (some (.builtin "object.__class__")))
  hn : (PySem.W.specialIn K (.builtin "object.__class__") "__get__" = some (some (.builtin "getset_descriptor.__get__")))
  ht : (PySem.W.takesIn K (.builtin "object.__class__") = some true)
  hm : (PySem.W.mroIn K C (.type "object") = some true)
theorem S_BadKind.ex {K : PySem.W.Frag} {mg : Str → Option Value} {C : Addr} (T : S_BadKind K mg C) : ExcC K C := ⟨T.hg, T.hk, T.b, T.hd, T.ha, T.hn, T.ht, T.hm⟩
theorem S_BadKind.te {K : PySem.W.Frag} {mg : Str → Option Value} {C : Addr} (T : S_BadKind K mg C) : PySem.W.exmOne K (.ref C) (.ref C) = some true := PySem.W.exm_ref T.b T.hd T.t T.s
structure S_BadSteps (K : PySem.W.Frag) (mg : Str → Option Value) (C : Addr) : Prop where
  mg : (mg "BadSteps" = some (.ref C))
  x : (PySem.W.excIn K C [.type "ValueError", .type "Exception", .type "BaseException", .type "object"] "ValueError.__new__" = true)
  kp : (PySem.W.keepIn K (.ref C) = true)
  b : (PySem.W.subIn K (.ref C) (.type "BaseException") = some true)
  t : (PySem.W.typeIn K (.ref C) = some (.type "type"))
  i : (PySem.W.isClsIn K C = true)
  s : (PySem.W.subIn K (.ref C) (.ref C) = some true)
  hg : (PySem.W.findIn K (.ref C) "__getattribute__" = some (some (.builtin "BaseException.__getattribute__")))
  hk : (PySem.W.findIn K (.ref C) "__getattr__" = some none)
  hd : (PySem.W.hasDictIn K C = true)
  ha : (PySem.W.findIn K (.ref C) "__class__" = some (some (.builtin "object.__class__")))
  hn : (PySem.W.specialIn K (.builtin "object.__class__") "__get__" = some (some (.builtin "getset_descriptor.__get__")))
  ht : (PySem.W.takesIn K (.builtin "object.__class__") = some true)
  hm : (PySem.W.mroIn K C (.type "object") = some true)
theorem S_BadSteps.ex {K : PySem.W.Frag} {mg : Str → Option Value} {C : Addr} (T : S_BadSteps K mg C) : ExcC K C := ⟨T.hg, T.hk, T.b, T.hd, T.ha, T.hn, T.ht, T.hm⟩
theorem S_BadSteps.te {K : PySem.W.Frag} {mg : Str → Option Value} {C : Addr} (T : S_BadSteps K mg C) : PySem.W.exmOne K (.ref C) (.ref C) = some true := PySem.W.exm_ref T.b T.hd T.t T.s
structure S_TooLarge (K : PySem.W.Frag) (mg : Str → Option Value) (C : Addr) : Prop where
  mg : (mg "TooLarge" = some (.ref C))
  x : (PySem.W.excIn K C [.type "ValueError", .type "Exception", .type "BaseException", .type "object"] "ValueError.__new__" = true)
  kp : (PySem.W.keepIn K (.ref C) = true)
  b : (PySem.W.subIn K (.ref C) (.type "BaseException") = some true)
  t : (PySem.W.typeIn K (.ref C) = some (.type "type"))
  i : (PySem.W.isClsIn K C = true)
  s : (PySem.W.subIn K (.ref C) (.ref C) = some true)
  hg : (PySem.W.findIn K (.ref C) "__getattribute__" = some (some (.builtin "BaseException.__getattribute__")))
  hk : (PySem.W.findIn K (.ref C) "__getattr__" = some none)
  hd : (PySem.W.hasDictIn K C = true)
  ha : (PySem.W.findIn K (.ref C) "__class__" = some (some (.builtin "object.__class__")))
  hn : (PySem.W.specialIn K (.builtin "object.__class__") "__get__" = some (some (.builtin "getset_descriptor.__get__")))
  ht : (PySem.W.takesIn K (.builtin "object.__class__") = some true)
  hm : (PySem.W.mroIn K C (.type "object") = some true)
theorem S_TooLarge.ex {K : PySem.W.Frag} {mg : Str → Option Value} {C : Addr} (T : S_TooLarge K mg C) : ExcC K C := ⟨T.hg, T.hk, T.b, T.hd, T.ha, T.hn, T.ht, T.hm⟩
theorem S_TooLarge.te {K : PySem.W.Frag} {mg : Str → Option Value} {C : Addr} (T : S_TooLarge K mg C) : PySem.W.exmOne K (.ref C) (.ref C) = some true := PySem.W.exm_ref T.b T.hd T.t T.s
structure S_Climate (K : PySem.W.Frag) (mg : Str → Option Value) (C : Addr) : Prop where
  pg : (PySem.W.plainGet K C Str.empty = true)
  hd : (PySem.W.hasDictIn K C = true)
  po : (PySem.W.plainOver K C = true)
  sa : (PySem.W.findIn K (.ref C) "__setattr__" = some (some (.builtin "object.__setattr__")))
  mg : (mg "Climate" = some (.ref C))
  sf : (PySem.W.selfFirst K C = true)
  nf : (PySem.W.notFirst K C (.ref C) = true)
  ha : (PySem.W.findIn K (.ref C) "__class__" = some (some (.builtin "object.__class__")))
  hn : (PySem.W.specialIn K (.builtin "object.__class__") "__get__" = some (some (.builtin "getset_descriptor.__get__")))
  ht : (PySem.W.takesIn K (.builtin "object.__class__") = some true)
  hm : (PySem.W.mroIn K C (.type "object") = some true)
  kp : (PySem.W.keepIn K (.ref C) = true)
  mkk : (PySem.W.makesIn K C = true)
  n_kinds : (PySem.W.findIn K (.ref C) "kinds" = some none)
theorem S_Climate.cl {K : PySem.W.Frag} {mg : Str → Option Value} {C : Addr} (T : S_Climate K mg C) : Cls K C := ⟨T.pg, T.hd, T.po, T.sa⟩
theorem S_Climate.ct {K : PySem.W.Frag} {mg : Str → Option Value} {C : Addr} (T : S_Climate K mg C) : ClsT K C := ⟨T.cl, T.ha, T.hn, T.ht, T.hm⟩
structure S_Lacquer (K : PySem.W.Frag) (mg : Str → Option Value) (C : Addr) : Prop where
  pg : (PySem.W.plainGet K C Str.empty = true)
  hd : (PySem.W.hasDictIn K C = true)
  po : (PySem.W.plainOver K C = true)
  sa : (PySem.W.findIn K (.ref C) "__setattr__" = some (some (.builtin "object.__setattr__")))
  mg : (mg "Lacquer" = some (.ref C))
  sf : (PySem.W.selfFirst K C = true)
  nf : (PySem.W.notFirst K C (.ref C) = true)
  ha : (PySem.W.findIn K (.ref C) "__class__" = some (some (.builtin "object.__class__")))
  hn : (PySem.W.specialIn K (.builtin "object.__class__") "__get__" = some (some (.builtin "getset_descriptor.__get__")))
  ht : (PySem.W.takesIn K (.builtin "object.__class__") = some true)
  hm : (PySem.W.mroIn K C (.type "object") = some true)
  kp : (PySem.W.keepIn K (.ref C) = true)
  mkk : (PySem.W.makesIn K C = true)
  v_MOST : (∃ u, PySem.W.findCls K (.ref C) (.type "type") "MOST" = some (.val u) ∧ RelV (.int 12) u)
  rd : (PySem.W.readsIn K C (.type "type") = true)
  ga : (PySem.W.specialIn K (.ref C) "__getattribute__" = some (some (.builtin "type.__getattribute__")))
  n_a : (PySem.W.findIn K (.ref C) "a" = some none)
  n_b : (PySem.W.findIn K (.ref C) "b" = some none)
theorem S_Lacquer.cl {K : PySem.W.Frag} {mg : Str → Option Value} {C : Addr} (T : S_Lacquer K mg C) : Cls K C := ⟨T.pg, T.hd, T.po, T.sa⟩
theorem S_Lacquer.cr {K : PySem.W.Frag} {mg : Str → Option Value} {C : Addr} (T : S_Lacquer K mg C) : ClX.CRead K C (.type "type") := ⟨T.rd, T.ga⟩
theorem S_Lacquer.ct {K : PySem.W.Frag} {mg : Str → Option Value} {C : Addr} (T : S_Lacquer K mg C) : ClsT K C := ⟨T.cl, T.ha, T.hn, T.ht, T.hm⟩
structure S_StepSet (K : PySem.W.Frag) (mg : Str → Option Value) (C : Addr) : Prop where
  pg : (PySem.W.plainGet K C Str.empty = true)
  hd : (PySem.W.hasDictIn K C = true)
  po : (PySem.W.plainOver K C = true)
  sa : (PySem.W.findIn K (.ref C) "__setattr__" = some (some (.builtin "object.__setattr__")))
  mg : (mg "StepSet" = some (.ref C))
  sf : (PySem.W.selfFirst K C = true)
  nf : (PySem.W.notFirst K C (.ref C) = true)
  ha : (PySem.W.findIn K (.ref C) "__class__" = some (some (.builtin "object.__class__")))
  hn : (PySem.W.specialIn K (.builtin "object.__class__") "__get__" = some (some (.builtin "getset_descriptor.__get__")))
  ht : (PySem.W.takesIn K (.builtin "object.__class__") = some true)
  hm : (PySem.W.mroIn K C (.type "object") = some true)
  kp : (PySem.W.keepIn K (.ref C) = true)
  mkk : (PySem.W.makesIn K C = true)
  rd : (PySem.W.readsIn K C (.type "type") = true)
  ga : (PySem.W.specialIn K (.ref C) "__getattribute__" = some (some (.builtin "type.__getattribute__")))
  n___len__ : (PySem.W.findIn K (.ref C) "__len__" = some none)
  n___length_hint__ : (PySem.W.findIn K (.ref C) "__length_hint__" = some none)
  n_steps : (PySem.W.findIn K (.ref C) "steps" = some none)
theorem S_StepSet.cl {K : PySem.W.Frag} {mg : Str → Option Value} {C : Addr} (T : S_StepSet K mg C) : Cls K C := ⟨T.pg, T.hd, T.po, T.sa⟩
theorem S_StepSet.cr {K : PySem.W.Frag} {mg : Str → Option Value} {C : Addr} (T : S_StepSet K mg C) : ClX.CRead K C (.type "type") := ⟨T.rd, T.ga⟩
theorem S_StepSet.ct {K : PySem.W.Frag} {mg : Str → Option Value} {C : Addr} (T : S_StepSet K mg C) : ClsT K C := ⟨T.cl, T.ha, T.hn, T.ht, T.hm⟩
def B_Climate_longest : M Fl :=
    (evRet (evMaxD [.e (evLc [2, 3] (itT (ev1 (dFld .Climate 0) (evV 0))) (.t [(.n 2), (.n 3)]) (tst (ev2 dLe (evV 3) (evV 1))) (evV 2))] (vD (.int 0))))
def G_Climate_longest : Fn := run0 2 B_Climate_longest
def B_Climate_need : M Fl :=
    (evRet (evMaxD [.e (evLc [1, 2] (itT (ev1 (dFld .Climate 0) (evV 0))) (.t [(.n 1), (.n 2)]) (pur true) (evV 2))] (vD (.int 0))))
def G_Climate_need : Fn := run0 2 B_Climate_need
def B_f_next_sky : M Fl :=
    (evSeq (evAsgT (.t [(.n 3), (.n 4)]) (evV 1))
    (evSeq (evIf (tst (ev2 dEq (evV 2) (vD (.str "."))))
    (evSeq (evAsg 5 (vIf (tst (ev2 dEq (evV 3) (vD (.str "dry")))) (evV 4) (vD (.int 0))))
    (evRet (evTup [.e (vD (.str "dry")), .e (evB gMin2 [.e (ev2 dAdd (evV 5) (vD (.int 1))), .e (evB gMax2 [.e (vD (.int 1)), .e (evMeth 1 G_Climate_need .Climate (evV 0) [])])])])))
    evNx)
    (evSeq (evAsg 6 (vIf (tst (ev2 dEq (evV 3) (vD (.str "dry")))) (evMeth 2 G_Climate_longest .Climate (evV 0) [.e (evV 4)]) (evV 4)))
    (evSeq (evIf (tst (ev2 dEq (evV 6) (vD (.int 0))))
    (evRet (vD .non))
    evNx)
    (evRet (evTup [.e (vD (.str "damp")), .e (ev2 dSub (evV 6) (vD (.int 1)))]))))))
def G_f_next_sky : Fn := run0 4 B_f_next_sky
def B_f_check_kind : M Fl :=
    (evIf (tOo (tNo (tst (ch2 dLe dLe (vD (.int 1)) (evV 0) (vD (.int 16))))) (tNo (tst (ch2 dLe dLe (vD (.int 1)) (evV 1) (vD (.int 120))))))
    (evRaise1 .BadKind (evJn [(vD (.str "(")), (ev1 dFmt (evV 0)), (vD (.str ", ")), (ev1 dFmt (evV 1)), (vD (.str ") is not a kind"))]))
    evNx)
def G_f_check_kind : Fn := runB 0 B_f_check_kind
def B_f_check_kinds : M Fl :=
    (evSeq (evIf (tst (ev2 dGt (evB gLen [.e (evV 0)]) (vD (.int 300))))
    (evRaise1 .BadKind (evJn [(ev1 dFmt (evB gLen [.e (evV 0)])), (vD (.str " kinds are too many for a climate"))]))
    evNx)
    (evFor (itL (evV 0)) (.t [(.n 1), (.n 2)])
    (evEx (evCall 2 G_f_check_kind [.e (evV 1), .e (evV 2)]))))
def G_f_check_kinds : Fn := runB 2 B_f_check_kinds
def B_f_plain_list : M Fl :=
    (evSeq (evAsgC 1 (pur (.c (.dK []))))
    (evSeq (evFor (itL (evV 0)) (.t [(.n 2), (.n 3)])
    (evDPut 1 (evV 2) (evB gMin2 [.e (evV 3), .e (evDGet2 1 (evV 2) (evV 3))])))
    (evSeq (evAsgC 4 (evLst []))
    (evSeq (evFor (itL (evSortDR 1)) (.n 2)
    (evIf (tOo (look 4 (fun _ => true) (tNo (tTr (evV 4)))) (tst (ev2 dLt (evDGet 1 (evV 2)) (ev2 dIx (look 4 Rv.lfree (ev2 dIx (evV 4) (ev1 dNeg (vD (.int 1))))) (vD (.int 1))))))
    (evEx (evBmL 4 fApp [.e (evTup [.e (evV 2), .e (evDGet 1 (evV 2))])]))
    evNx))
    (evRet (evRev (evF 4)))))))
def G_f_plain_list : Fn := run0 4 B_f_plain_list
def B_Climate_init : M Fl :=
    (evSeq (evEx (evCall 1 G_f_check_kinds [.e (evV 1)]))
    (evFldS .Climate 0 "kinds" (evB gTup [.e (evCall0 1 G_f_plain_list [.e (evV 1)])])))
def G_Climate_init : Fn := runB 0 B_Climate_init
def B_f_first_stand : M Fl :=
    (evRet (evTup [.e (vD (.tup [(.str "dry"), (.int 1)])), .e (evTup [.e (vD (.int 0))])]))
def G_f_first_stand : Fn := run0 0 B_f_first_stand
def B_StepSet_contains : M Fl :=
    (evRet (ev2 dIn (evV 1) (ev1 (dFld .StepSet 0) (evV 0))))
def G_StepSet_contains : Fn := run0 0 B_StepSet_contains
def B_StepSet_farthest : M Fl :=
    (evRet (ev2 dIx (ev1 (dFld .StepSet 0) (evV 0)) (ev1 dNeg (vD (.int 1)))))
def G_StepSet_farthest : Fn := run0 0 B_StepSet_farthest
def B_f_next_stand : M Fl :=
    (evSeq (evAsgT (.t [(.n 4), (.n 5)]) (evV 2))
    (evSeq (evAsg 6 (evCall0 3 G_f_next_sky [.e (evV 1), .e (evV 4), .e (evV 3)]))
    (evSeq (evIf (tst (ev2 dIs (evV 6) (vD .non)))
    (evRet (vD .non))
    evNx)
    (evSeq (evAsg 7 (evLc [9] (itT (evV 5)) (.n 9) (pur true) (ev2 dAdd (evV 9) (vD (.int 1)))))
    (evSeq (evAsg 8 (vIf (tAn (tst (ev2 dEq (evV 3) (vD (.str ".")))) (tst (evB gAny [.e (evLc [9] (itL (evV 7)) (.n 9) (pur true) (evOwnIn 2 G_StepSet_contains .StepSet (evV 9) (evV 0)))]))) (evLst [.e (vD (.int 0))]) (evLst [])))
    (evRet (evTup [.e (evV 6), .e (evB gTup [.e (ev2c cCat (evV 8) (evLc [9] (itL (evV 7)) (.n 9) (tst (ev2 dLt (evV 9) (evMeth 1 G_StepSet_farthest .StepSet (evV 0) []))) (evV 9)))])])))))))
def G_f_next_stand : Fn := run0 6 B_f_next_stand
def B_Lacquer_init : M Fl :=
    (evSeq (evIf (tNo (ch3 dLe dLt dLe (vD (.int 1)) (evV 1) (evV 2) (vD (.int 12))))
    (evRaise1 .BadLacquer (evJn [(vD (.str "a lacquer has no numbers ")), (ev1 dFmt (evV 1)), (vD (.str " and ")), (ev1 dFmt (evV 2))]))
    evNx)
    (evSeq (evFldS .Lacquer 0 "a" (evV 1))
    (evFldS .Lacquer 0 "b" (evV 2))))
def G_Lacquer_init : Fn := runB 0 B_Lacquer_init
def B_StepSet_init : M Fl :=
    (evSeq (evIf (tOo (tNo (tTr (evV 1))) (tOo (tst (ev2 dLt (evB gMinL [.e (evV 1)]) (vD (.int 1)))) (tst (ev2 dGt (evB gMaxL [.e (evV 1)]) (vD (.int 8))))))
    (evRaise1 .BadSteps (evJn [(vD (.str "a step set has one or more steps from 1 to ")), (ev1 dFmt (vD (.int 8)))]))
    evNx)
    (evFldS .StepSet 0 "steps" (evB gTup [.e (evSrtSt (evV 1))])))
def G_StepSet_init : Fn := runB 0 B_StepSet_init
def B_StepSet_eq : M Fl :=
    (evRet (vAn (evIsi [(.o .StepSet, true), (.b "NoneType", false)] (evV 1)) (ev2 dEq (ev1 (dFld .StepSet 0) (evV 0)) (ev1 (dFld .StepSet 0) (evV 1)))))
def G_StepSet_eq : Fn := run0 0 B_StepSet_eq
def B_StepSet_or : M Fl :=
    (evRet (evMk 2 G_StepSet_init .StepSet [.e (evLst [.s (ev1 (dFld .StepSet 0) (evV 0)), .s (ev1 (dFld .StepSet 0) (evV 1))])]))
def G_StepSet_or : Fn := runB 0 B_StepSet_or
def B_StepSet_of : M Fl :=
    (evSeq (evIf (tst (ev2 dGt (ev1 (dFld .Lacquer 1) (evV 0)) (vD (.int 8))))
    (evRaise1 .TooLarge (evJn [(vD (.str "a lacquer with a step of more than ")), (ev1 dFmt (vD (.int 8))), (vD (.str " hours has no step set"))]))
    evNx)
    (evRet (evMk 2 G_StepSet_init .StepSet [.e (evLstRg (ev1 (dFld .Lacquer 0) (evV 0)) (ev2 dAdd (ev1 (dFld .Lacquer 1) (evV 0)) (vD (.int 1))))])))
def G_StepSet_of : Fn := runB 0 B_StepSet_of
def B_l_cell : M Fl :=
    (evSeq (evIf (tst (ev2 dLt (evV 1) (evB gLen [.e (evV 0)])))
    (evRet (ev2 dIx (evV 0) (evV 1)))
    evNx)
    (evRet (ev2 dAdd (ev2 dMul (vD (.int 977)) (evV 1)) (vD (.int 31)))))
def G_l_cell : Fn := run0 0 B_l_cell
def B_l_pool : M Fl :=
    (evSeq (evIf (tst (ev2 dGe (evV 0) (ev2 dPow (vD (.int 10)) (vD (.int 18)))))
    (evRet (evLst [.e (ev2 dSub (evV 0) (ev2 dPow (vD (.int 10)) (vD (.int 18)))), .e (ev2 dMod (evB gInt [.e (evV 0)]) (vD (.int 1000000007))), .e (vD (.int 0))]))
    evNx)
    (evSeq (evIf (tst (ev2 dLt (evV 0) (vD (.int 0))))
    (evRet (evLst [.e (vD (.int 0)), .e (ev2 dMod (evB gInt [.e (ev2 dSub (vD (.int 1)) (ev2 dMul (vD (.int 2)) (evV 0)))]) (vD (.int 1000000007))), .e (vD (.int 0))]))
    evNx)
    (evRet (evLst [.e (vD (.int 0)), .e (ev2 dMod (evB gInt [.e (ev2 dMul (vD (.int 2)) (evV 0))]) (vD (.int 1000000007))), .e (vD (.int 0))]))))
def G_l_pool : Fn := run0 0 B_l_pool
def B_l_take : M Fl :=
    (evSeq (evSetI 0 (vD (.int 2)) (ev2 dAdd (look 0 Rv.lfree (ev2 dIx (evV 0) (vD (.int 2)))) (vD (.int 1))))
    (evSeq (evIf (tst (ev2 dGt (look 0 Rv.lfree (ev2 dIx (evV 0) (vD (.int 0)))) (vD (.int 1))))
    (evSeq (evAsg 2 (ev2 dMod (evB gInt [.e (look 0 Rv.lfree (ev2 dIx (evV 0) (vD (.int 0))))]) (evV 1)))
    (evSeq (evSetI 0 (vD (.int 0)) (ev2 dDiv (look 0 Rv.lfree (ev2 dIx (evV 0) (vD (.int 0)))) (evV 1)))
    (evRet (evV 2))))
    evNx)
    (evSeq (evAsg 3 (ev2 dMod (evB gInt [.e (ev2 dAdd (ev2 dAdd (look 0 Rv.lfree (ev2 dIx (evV 0) (vD (.int 1)))) (ev2 dMul (vD (.int 48271)) (look 0 Rv.lfree (ev2 dIx (evV 0) (vD (.int 2)))))) (vD (.int 12345)))]) (vD (.int 2147483647))))
    (evSeq (evAsg 3 (ev2 dMod (evB gInt [.e (ev2 dAdd (ev2 dAdd (ev2 dMul (evV 3) (evV 3)) (ev2 dMul (vD (.int 16807)) (look 0 Rv.lfree (ev2 dIx (evV 0) (vD (.int 2)))))) (vD (.int 7)))]) (vD (.int 2147483629))))
    (evSeq (evAsg 3 (ev2 dMod (evB gInt [.e (ev2 dAdd (ev2 dAdd (ev2 dMul (evV 3) (evV 3)) (ev2 dMul (vD (.int 69621)) (look 0 Rv.lfree (ev2 dIx (evV 0) (vD (.int 2)))))) (vD (.int 3)))]) (vD (.int 2147483587))))
    (evRet (ev2 dMod (evB gInt [.e (ev2 dDiv (evV 3) (vD (.int 7)))]) (evV 1))))))))
def G_l_take : Fn := run0 2 B_l_take
def B_l_same (GR : Fn) : M Fl :=
    (evSeq (evIf (tst (ev2 dIs (evV 1) (vD .non)))
    (evRet (ev2 dIs (evV 0) (vD .non)))
    evNx)
    (evSeq (evIf (tst (evIsi [(.b "tuple", false), (.b "str", false), (.b "list", false), (.b "int", false), (.b "bool", true), (.b "NoneType", false)] (evV 1)))
    (evRet (vAn (evIsi [(.b "tuple", false), (.b "str", false), (.b "list", false), (.b "int", false), (.b "bool", true), (.b "NoneType", false)] (evV 0)) (ev2 dEq (evV 0) (evV 1))))
    evNx)
    (evSeq (evIf (tst (evIsi [(.b "tuple", false), (.b "str", false), (.b "list", false), (.b "int", true), (.b "bool", true), (.b "NoneType", false)] (evV 1)))
    (evRet (vAn (evIsi [(.b "tuple", false), (.b "str", false), (.b "list", false), (.b "int", true), (.b "bool", true), (.b "NoneType", false)] (evV 0)) (vAn (vNo (evIsi [(.b "tuple", false), (.b "str", false), (.b "list", false), (.b "int", false), (.b "bool", true), (.b "NoneType", false)] (evV 0))) (ev2 dEq (evV 0) (evV 1)))))
    evNx)
    (evSeq (evIf (tst (evIsi [(.b "tuple", false), (.b "str", true), (.b "list", false), (.b "int", false), (.b "bool", false), (.b "NoneType", false)] (evV 1)))
    (evRet (vAn (evIsi [(.b "tuple", false), (.b "str", true), (.b "list", false), (.b "int", false), (.b "bool", false), (.b "NoneType", false)] (evV 0)) (ev2 dEq (evV 0) (evV 1))))
    evNx)
    (evSeq (evIf (tAn (tst (evIsi [(.b "tuple", true), (.b "str", false), (.b "list", false), (.b "int", false), (.b "bool", false), (.b "NoneType", false)] (evV 1))) (tNo (tst (evIsi [(.b "tuple", true), (.b "str", false), (.b "list", false), (.b "int", false), (.b "bool", false), (.b "NoneType", false)] (evV 0)))))
    (evRet (vD (.bl false)))
    evNx)
    (evSeq (evIf (tAn (tst (evIsi [(.b "tuple", false), (.b "str", false), (.b "list", true), (.b "int", false), (.b "bool", false), (.b "NoneType", false)] (evV 1))) (tNo (tst (evIsi [(.b "tuple", false), (.b "str", false), (.b "list", true), (.b "int", false), (.b "bool", false), (.b "NoneType", false)] (evV 0)))))
    (evRet (vD (.bl false)))
    evNx)
    (evSeq (evIf (tst (ev2 dNe (evB gLen [.e (evV 0)]) (evB gLen [.e (evV 1)])))
    (evRet (vD (.bl false)))
    evNx)
    (evSeq (evFor (itR1 (evB gLen [.e (evV 1)])) (.n 2)
    (evIf (tNo (tst (evCall0 2 GR [.e (ev2 dIx (evV 0) (evV 2)), .e (ev2 dIx (evV 1) (evV 2))])))
    (evRet (vD (.bl false)))
    evNx))
    (evRet (vD (.bl true)))))))))))
def GR_l_same : Nat → Fn
  | 0 => fun _ => none
  | n + 1 => run0 1 (B_l_same (GR_l_same n))
abbrev G_l_same : Fn := GR_l_same 4
def B_l_ab : M Fl :=
    (evSeq (evAsg 2 (ev2 dAdd (vD (.int 1)) (evCall0 2 G_l_take [.c 0, .e (ev2 dSub (evV 1) (vD (.int 1)))])))
    (evRet (evTup [.e (evV 2), .e (ev2 dAdd (ev2 dAdd (evV 2) (vD (.int 1))) (evCall0 2 G_l_take [.c 0, .e (ev2 dSub (evV 1) (evV 2))]))])))
def G_l_ab : Fn := run0 1 B_l_ab
def B_l_kinds : M Fl :=
    (evSeq (evAsgC 4 (evLst []))
    (evSeq (evFor (itR1 (evCall0 2 G_l_take [.c 0, .e (ev2 dAdd (evV 1) (vD (.int 1)))])) (.n 5)
    (evSeq (evAsg 6 (ev2 dAdd (vD (.int 1)) (evCall0 2 G_l_take [.c 0, .e (evV 2)])))
    (evEx (evBmL 4 fApp [.e (evTup [.e (evV 6), .e (ev2 dAdd (vD (.int 1)) (evCall0 2 G_l_take [.c 0, .e (evV 3)]))])]))))
    (evRet (evM 4))))
def G_l_kinds : Fn := run0 3 B_l_kinds
def B_l_longest : M Fl :=
    (evSeq (evAsg 2 (vD (.int 0)))
    (evSeq (evFor (itL (evV 0)) (.n 3)
    (evIf (tAn (tst (ev2 dLe (ev2 dIx (evV 3) (vD (.int 1))) (evV 1))) (tst (ev2 dGt (ev2 dIx (evV 3) (vD (.int 0))) (evV 2))))
    (evAsg 2 (ev2 dIx (evV 3) (vD (.int 0))))
    evNx))
    (evRet (evV 2))))
def G_l_longest : Fn := run0 2 B_l_longest
def B_l_least_run : M Fl :=
    (evSeq (evAsg 2 (vD (.int 0)))
    (evSeq (evFor (itL (evV 0)) (.n 3)
    (evIf (tAn (tst (ev2 dGe (ev2 dIx (evV 3) (vD (.int 0))) (evV 1))) (tOo (tst (ev2 dEq (evV 2) (vD (.int 0)))) (tst (ev2 dLt (ev2 dIx (evV 3) (vD (.int 1))) (evV 2)))))
    (evAsg 2 (ev2 dIx (evV 3) (vD (.int 1))))
    evNx))
    (evRet (evV 2))))
def G_l_least_run : Fn := run0 2 B_l_least_run
def B_l_plain : M Fl :=
    (evSeq (evAsgC 1 (evLst []))
    (evSeq (evFor (itR2 (vD (.int 1)) (vD (.int 17))) (.n 2)
    (evSeq (evAsg 3 (evCall0 2 G_l_least_run [.e (evV 0), .e (evV 2)]))
    (evIf (tAn (tst (ev2 dGt (evV 3) (vD (.int 0)))) (tst (ev2 dNe (evV 3) (evCall0 2 G_l_least_run [.e (evV 0), .e (ev2 dAdd (evV 2) (vD (.int 1)))]))))
    (evEx (evBmL 1 fApp [.e (evTup [.e (evV 2), .e (evV 3)])]))
    evNx)))
    (evRet (evM 1))))
def G_l_plain : Fn := run0 3 B_l_plain
def B_l_need : M Fl :=
    (evSeq (evAsg 1 (evCall0 1 G_l_plain [.e (evV 0)]))
    (evSeq (evIf (tst (ev2 dEq (evB gLen [.e (evV 1)]) (vD (.int 0))))
    (evRet (vD (.int 0)))
    evNx)
    (evRet (ev2 dIx (ev2 dIx (evV 1) (ev1 dNeg (vD (.int 1)))) (vD (.int 1))))))
def G_l_need : Fn := run0 1 B_l_need
def B_l_signs_of : M Fl :=
    (evSeq (evAsg 3 (vD (.str ".")))
    (evSeq (evAsg 4 (evCall0 2 G_l_take [.c 0, .e (vD (.int 3))]))
    (evSeq (evAsg 5 (vD (.int 1)))
    (evSeq (evAsg 6 (vD (.int 0)))
    (evSeq (evFor (itR1 (ev2 dSub (evV 2) (vD (.int 1)))) (.n 7)
    (evSeq (evAsg 8 (evV 6))
    (evSeq (evIf (tst (ev2 dGt (evV 5) (vD (.int 0))))
    (evAsg 8 (evCall0 2 G_l_longest [.e (evV 1), .e (evV 5)]))
    evNx)
    (evSeq (evAsg 9 (vD (.bl false)))
    (evSeq (evIf (tAn (tst (ev2 dGt (evV 8) (vD (.int 0)))) (tst (ev2 dEq (evV 4) (vD (.int 0)))))
    (evAsg 9 (ev2 dEq (evCall0 2 G_l_take [.c 0, .e (vD (.int 2))]) (vD (.int 1))))
    (evIf (tAn (tst (ev2 dGt (evV 8) (vD (.int 0)))) (tst (ev2 dEq (evV 4) (vD (.int 1)))))
    (evAsg 9 (ev2 dEq (evCall0 2 G_l_take [.c 0, .e (vD (.int 5))]) (vD (.int 1))))
    (evIf (tAn (tst (ev2 dGt (evV 8) (vD (.int 0)))) (tst (ev2 dGt (evV 5) (vD (.int 0)))))
    (evAsg 9 (ev2 dEq (evCall0 2 G_l_take [.c 0, .e (vD (.int 3))]) (vD (.int 1))))
    (evIf (tst (ev2 dGt (evV 8) (vD (.int 0))))
    (evAsg 9 (ev2 dGt (evCall0 2 G_l_take [.c 0, .e (vD (.int 6))]) (vD (.int 0))))
    evNx))))
    (evIf (tst (evV 9))
    (evSeq (evAsg 3 (ev2 dAddS (evV 3) (vD (.str "#"))))
    (evSeq (evAsg 5 (vD (.int 0)))
    (evAsg 6 (ev2 dSub (evV 8) (vD (.int 1))))))
    (evSeq (evAsg 3 (ev2 dAddS (evV 3) (vD (.str "."))))
    (evAsg 5 (ev2 dAdd (evV 5) (vD (.int 1)))))))))))
    (evRet (evV 3)))))))
def G_l_signs_of : Fn := run0 7 B_l_signs_of
def B_l_sky : M Fl :=
    (evSeq (evIf (tst (ev2 dEq (evV 3) (vD (.str "."))))
    (evSeq (evIf (tst (ev2 dEq (ev2 dIx (evV 2) (vD (.int 0))) (vD (.str "dry"))))
    (evRet (evTup [.e (vD (.str "dry")), .e (evB gMin2 [.e (ev2 dAdd (ev2 dIx (evV 2) (vD (.int 1))) (vD (.int 1))), .e (evV 1)])]))
    evNx)
    (evRet (evTup [.e (vD (.str "dry")), .e (vD (.int 1))])))
    evNx)
    (evSeq (evAsg 4 (ev2 dIx (evV 2) (vD (.int 1))))
    (evSeq (evIf (tst (ev2 dEq (ev2 dIx (evV 2) (vD (.int 0))) (vD (.str "dry"))))
    (evAsg 4 (evCall0 2 G_l_longest [.e (evV 0), .e (ev2 dIx (evV 2) (vD (.int 1)))]))
    evNx)
    (evSeq (evIf (tst (ev2 dLt (evV 4) (vD (.int 1))))
    (evRet (vD .non))
    evNx)
    (evRet (evTup [.e (vD (.str "damp")), .e (ev2 dSub (evV 4) (vD (.int 1)))]))))))
def G_l_sky : Fn := run0 1 B_l_sky
def B_l_ages : M Fl :=
    (evSeq (evAsgC 3 (evLst []))
    (evSeq (evIf (tAn (tst (ev2 dEq (evV 2) (vD (.str ".")))) (tst (ev2 dGt (evB gLen [.e (evLc [4] (itT (evV 1)) (.n 4) (tst (ev2 dIn (ev2 dAdd (evV 4) (vD (.int 1))) (evV 0))) (evV 4))]) (vD (.int 0)))))
    (evEx (evBmL 3 fApp [.e (vD (.int 0))]))
    evNx)
    (evSeq (evFor (itT (evV 1)) (.n 4)
    (evIf (tst (ev2 dLt (ev2 dAdd (evV 4) (vD (.int 1))) (ev2 dIx (evV 0) (ev1 dNeg (vD (.int 1))))))
    (evEx (evBmL 3 fApp [.e (ev2 dAdd (evV 4) (vD (.int 1)))]))
    evNx))
    (evRet (evB gTup [.e (evF 3)])))))
def G_l_ages : Fn := run0 2 B_l_ages
def B_l_stand : M Fl :=
    (evSeq (evAsg 5 (evCall0 4 G_l_sky [.e (evV 1), .e (evV 2), .e (ev2 dIx (evV 3) (vD (.int 0))), .e (evV 4)]))
    (evSeq (evIf (tst (ev2 dIs (evV 5) (vD .non)))
    (evRet (vD .non))
    evNx)
    (evRet (evTup [.e (evV 5), .e (evCall0 3 G_l_ages [.e (evV 0), .e (ev2 dIx (evV 3) (vD (.int 1))), .e (evV 4)])]))))
def G_l_stand : Fn := run0 1 B_l_stand
def B_l_items : M Fl :=
    (evSeq (evAsg 1 (vD (.int 6)))
    (evSeq (evIf (tst (ev2 dEq (evCall0 2 G_l_take [.c 0, .e (vD (.int 16))]) (vD (.int 3))))
    (evAsg 1 (vD (.int 40)))
    evNx)
    (evSeq (evAsgC 2 (evLc [6] (itR1 (ev2 dAdd (vD (.int 1)) (evCall0 2 G_l_take [.c 0, .e (evV 1)]))) (.n 6) (pur true) (ev2 dAdd (vD (.int 1)) (evCall0 2 G_l_take [.c 0, .e (vD (.int 8))]))))
    (evSeq (evAsg 3 (evCall0 2 G_l_take [.c 0, .e (vD (.int 16))]))
    (evSeq (evIf (tst (ev2 dEq (evV 3) (vD (.int 5))))
    (evRet (evLst []))
    evNx)
    (evSeq (evIf (tOo (tst (ev2 dEq (evV 3) (vD (.int 6)))) (tst (ev2 dEq (evV 3) (vD (.int 7)))))
    (evSeq (evAsg 4 (ev2 dIx (evLst [.e (vD (.int 1)), .e (vD (.int 1)), .e (vD (.int 1)), .e (ev2 dPow (vD (.int 10)) (vD (.int 9)))]) (evCall0 2 G_l_take [.c 0, .e (vD (.int 4))])))
    (evSeq (evAsg 5 (ev2 dAdd (vD (.int 9)) (evCall0 2 G_l_take [.c 0, .e (evV 4)])))
    (evSeq (evIf (tst (ev2 dEq (evCall0 2 G_l_take [.c 0, .e (vD (.int 2))]) (vD (.int 0))))
    (evAsg 5 (ev2 dSub (vD (.int 9)) (evV 5)))
    evNx)
    (evEx (evBmL 2 fIns [.e (evCall0 2 G_l_take [.c 0, .e (ev2 dAdd (look 2 Rv.lfree (evB gLen [.e (evV 2)])) (vD (.int 1)))]), .e (evV 5)])))))
    evNx)
    (evRet (evM 2))))))))
def G_l_items : Fn := run0 6 B_l_items
def B_l_made : M Fl :=
    (evSeq (evAsg 1 (vD (.str "told")))
    (evSeq (evAsg 2 (vD .non))
    (evSeq (evAsg 3 (vD (.bl true)))
    (evSeq (evTryA 4 (evAsg 2 (evMk 2 G_StepSet_init .StepSet [.e (evV 0)])) [(.DampError, false), (.BadLacquer, false), (.BadKind, false), (.BadSteps, true), (.TooLarge, false)]
    (evSeq (evAsg 1 (vD (.str "refused")))
    (evAsg 3 (vAn (evIsE 4 [(.o .BadSteps, true)]) (vAn (evIsE 4 [(.o .BadSteps, true)]) (vNo (evIsE 4 [(.o .BadSteps, false)])))))))
    (evRet (evTup [.e (evV 1), .e (evV 2), .e (evV 3)]))))))
def G_l_made : Fn := run0 4 B_l_made
def B_l_is : M Fl :=
    (evSeq (evIf (tOo (tNo (tst (evIsi [(.o .StepSet, true), (.b "NoneType", false)] (evV 0)))) (tNo (tst (evCall0 2 G_l_same [.e (ev1 (dFld .StepSet 0) (evV 0)), .e (evB gTup [.e (evV 1)])]))))
    (evRet (vD (.bl false)))
    evNx)
    (evSeq (evIf (tOo (tNo (tst (evCall0 2 G_l_same [.e (evMeth 1 G_StepSet_farthest .StepSet (evV 0) []), .e (ev2 dIx (evV 1) (ev1 dNeg (vD (.int 1))))]))) (tNo (tst (evCall0 2 G_l_same [.e (evBc (gLstO .StepSet 0) [.e (evV 0)]), .e (evV 1)]))))
    (evRet (vD (.bl false)))
    evNx)
    (evSeq (evFor (itL (evLst [.e (ev1 dNeg (vD (.int 9))), .e (ev1 dNeg (vD (.int 8))), .e (ev1 dNeg (vD (.int 2))), .e (ev1 dNeg (vD (.int 1))), .e (vD (.int 0)), .e (vD (.int 1)), .e (vD (.int 2)), .e (vD (.int 3)), .e (vD (.int 4)), .e (vD (.int 5)), .e (vD (.int 6)), .e (vD (.int 7)), .e (vD (.int 8)), .e (vD (.int 9)), .e (vD (.int 10)), .e (vD (.int 11)), .e (vD (.int 1000000))])) (.n 2)
    (evIf (tst (ev2 dNe (evOwnIn 2 G_StepSet_contains .StepSet (evV 2) (evV 0)) (ev2 dIn (evV 2) (evV 1))))
    (evRet (vD (.bl false)))
    evNx))
    (evRet (vD (.bl true))))))
def G_l_is : Fn := run0 1 B_l_is
def B_l_of : M Fl :=
    (evSeq (evAsg 1 (vD (.str "told")))
    (evSeq (evAsg 2 (vD .non))
    (evSeq (evAsg 3 (vD (.bl true)))
    (evSeq (evTryA 4 (evAsg 2 (evCall 1 G_StepSet_of [.e (evMk 3 G_Lacquer_init .Lacquer [.e (ev2 dIx (evV 0) (vD (.int 0))), .e (ev2 dIx (evV 0) (vD (.int 1)))])])) [(.DampError, false), (.BadLacquer, false), (.BadKind, false), (.BadSteps, false), (.TooLarge, true)]
    (evSeq (evAsg 1 (vD (.str "refused")))
    (evAsg 3 (vAn (evIsE 4 [(.o .TooLarge, true)]) (vAn (evIsE 4 [(.o .TooLarge, true)]) (vNo (evIsE 4 [(.o .TooLarge, false)])))))))
    (evSeq (evIf (tst (ev2 dGt (ev2 dIx (evV 0) (vD (.int 1))) (vD (.int 8))))
    (evRet (vAn (ev2 dEq (evV 1) (vD (.str "refused"))) (evV 3)))
    evNx)
    (evRet (vAn (ev2 dEq (evV 1) (vD (.str "told"))) (evCall0 2 G_l_is [.e (evV 2), .e (evLc [5] (itR2 (ev2 dIx (evV 0) (vD (.int 0))) (ev2 dAdd (ev2 dIx (evV 0) (vD (.int 1))) (vD (.int 1)))) (.n 5) (pur true) (evV 5))]))))))))
def G_l_of : Fn := run0 5 B_l_of
def B_l_some_stand : M Fl :=
    (evSeq (evAsg 4 (evTup [.e (vD (.str "dry")), .e (ev2 dAdd (vD (.int 1)) (evCall0 2 G_l_take [.c 0, .e (evV 2)]))]))
    (evSeq (evIf (tAn (tst (ev2 dGt (evB gLen [.e (evV 1)]) (vD (.int 0)))) (tst (ev2 dEq (evCall0 2 G_l_take [.c 0, .e (vD (.int 2))]) (vD (.int 0)))))
    (evAsg 4 (evTup [.e (vD (.str "damp")), .e (evCall0 2 G_l_take [.c 0, .e (evB gMaxL [.e (evLc [6] (itL (evV 1)) (.n 6) (pur true) (ev2 dIx (evV 6) (vD (.int 0))))])])]))
    evNx)
    (evSeq (evAsg 5 (evLc [7] (itR1 (evV 3)) (.n 7) (tst (ev2 dEq (evCall0 2 G_l_take [.c 0, .e (vD (.int 2))]) (vD (.int 1)))) (evV 7)))
    (evRet (evTup [.e (evV 4), .e (evB gTup [.e (evV 5)])])))))
def G_l_some_stand : Fn := run0 4 B_l_some_stand
def B_l_odd_right : M Fl :=
    (evSeq (evFor (itL (evLst [.e (vD (.str ".")), .e (vD (.str "#"))])) (.n 6)
    (evIf (tNo (tst (evCall0 2 G_l_same [.e (evCall0 4 G_f_next_stand [.e (evV 0), .e (evV 3), .e (evV 5), .e (evV 6)]), .e (evCall0 5 G_l_stand [.e (evV 1), .e (evV 2), .e (evV 4), .e (evV 5), .e (evV 6)])])))
    (evRet (vD (.bl false)))
    evNx))
    (evRet (vD (.bl true))))
def G_l_odd_right : Fn := run0 1 B_l_odd_right
def B_l_law : M Fl :=
    (evSeq (evPo 1 2 3 4 (evCall0 1 G_l_pool [.e (evCall0 2 G_l_cell [.e (evV 0), .e (vD (.int 0))])]) (evCall0 1 G_l_pool [.e (evCall0 2 G_l_cell [.e (evV 0), .e (vD (.int 1))])])
    (evSeq (evAsg 5 (evCall0 1 G_l_items [.c 4]))
    (evSeq (evAsgC 6 (evBc gLst [.e (evV 5)]))
    (evSeq (evAsg 7 (look 6 Rv.lfree (evCall0 1 G_l_made [.e (evV 6)])))
    (evSeq (evIf (tNo (look 6 (fun _ => true) (tst (evCall0 2 G_l_same [.e (evV 6), .e (evV 5)]))))
    (evRet (vD (.bl false)))
    evNx)
    (evSeq (evIf (tOo (tst (ev2 dEq (evB gLen [.e (evV 5)]) (vD (.int 0)))) (tst (ev2 dGt (evB gLen [.e (evLc [17] (itL (evV 5)) (.n 17) (tOo (tst (ev2 dLt (evV 17) (vD (.int 1)))) (tst (ev2 dGt (evV 17) (vD (.int 8))))) (evV 17))]) (vD (.int 0)))))
    (evRet (vAn (ev2 dEq (ev2 dIx (evV 7) (vD (.int 0))) (vD (.str "refused"))) (ev2 dIx (evV 7) (vD (.int 2)))))
    evNx)
    (evSeq (evIf (tst (ev2 dNe (ev2 dIx (evV 7) (vD (.int 0))) (vD (.str "told"))))
    (evRet (vD (.bl false)))
    evNx)
    (evSeq (evSetI 6 (vD (.int 0)) (ev2 dSub (vD (.int 9)) (look 6 Rv.lfree (ev2 dIx (evV 6) (vD (.int 0))))))
    (evSeq (evEx (evBmL 6 fApp [.e (vD (.int 8))]))
    (evSeq (evEx (evBmL 2 fApp [.e (ev2 dIx (evV 7) (vD (.int 1)))]))
    (evSeq (evEx (evBmL 3 fApp [.e (evLc [17] (itR2 (vD (.int 1)) (vD (.int 9))) (.n 17) (tst (ev2 dIn (evV 17) (evV 5))) (evV 17))]))
    (evIf (tOo (tNo (tst (evCall0 2 G_l_is [.e (ev2 dIx (evV 7) (vD (.int 1))), .e (evIxL 3 (ev1 dNeg (vD (.int 1))))]))) (tNo (tst (evCall0 2 G_l_same [.e (evOwn2 2 G_StepSet_eq .StepSet (ev2 dIx (evV 7) (vD (.int 1))) (evMk0 2 G_StepSet_init .StepSet [.e (evRev (evV 5))])), .e (vD (.bl true))]))))
    (evRet (vD (.bl false)))
    evNx))))))))))))
    (evSeq (evAsg 8 (evLc [17] (itR2 (vD (.int 1)) (vD (.int 9))) (.n 17) (tOo (tst (ev2 dIn (evV 17) (ev2 dIx (evF 3) (vD (.int 0))))) (tst (ev2 dIn (evV 17) (ev2 dIx (evF 3) (vD (.int 1)))))) (evV 17)))
    (evSeq (evIf (tOo (tNo (tst (evCall0 2 G_l_is [.e (evOwn2 2 G_StepSet_or .StepSet (ev2 dIx (evF 2) (vD (.int 0))) (ev2 dIx (evF 2) (vD (.int 1)))), .e (evV 8)]))) (tNo (tst (evCall0 2 G_l_same [.e (evOwn2 2 G_StepSet_eq .StepSet (ev2 dIx (evF 2) (vD (.int 0))) (ev2 dIx (evF 2) (vD (.int 1)))), .e (ev2 dEq (ev2 dIx (evF 3) (vD (.int 0))) (ev2 dIx (evF 3) (vD (.int 1))))]))))
    (evRet (vD (.bl false)))
    evNx)
    (evSeq (evAsgC 4 (evCall0 1 G_l_pool [.e (evCall0 2 G_l_cell [.e (evV 0), .e (vD (.int 2))])]))
    (evSeq (evIf (tOo (tNo (tst (evCall0 1 G_l_of [.e (evCall0 2 G_l_ab [.c 4, .e (vD (.int 12))])]))) (tNo (tst (evCall0 2 G_l_same [.e (evCall0 0 G_f_first_stand []), .e (evTup [.e (evTup [.e (vD (.str "dry")), .e (vD (.int 1))]), .e (evTup [.e (vD (.int 0))])])]))))
    (evRet (vD (.bl false)))
    evNx)
    (evSeq (evAsg 9 (evCall0 4 G_l_kinds [.c 4, .e (vD (.int 3)), .e (vD (.int 8)), .e (vD (.int 12))]))
    (evSeq (evIf (tst (ev2 dEq (evCall0 2 G_l_take [.c 4, .e (vD (.int 8))]) (vD (.int 3))))
    (evAsg 9 (evCall0 4 G_l_kinds [.c 4, .e (vD (.int 12)), .e (vD (.int 16)), .e (vD (.int 120))]))
    evNx)
    (evSeq (evAsg 10 (ev2 dAdd (vD (.int 1)) (evCall0 2 G_l_take [.c 4, .e (vD (.int 20))])))
    (evSeq (evIf (tst (ev2 dEq (evCall0 2 G_l_take [.c 4, .e (vD (.int 16))]) (vD (.int 0))))
    (evAsg 10 (ev2 dAdd (vD (.int 1)) (evCall0 2 G_l_take [.c 4, .e (vD (.int 150))])))
    evNx)
    (evSeq (evAsg 11 (evCall0 3 G_l_signs_of [.c 4, .e (evV 9), .e (evV 10)]))
    (evSeq (evAsg 12 (evMk0 2 G_Climate_init .Climate [.e (evBc gLst [.e (evV 9)])]))
    (evSeq (evAsg 13 (evB gMax2 [.e (vD (.int 1)), .e (evCall0 1 G_l_need [.e (evV 9)])]))
    (evSeq (evFor (itR1 (vD (.int 2))) (.n 14)
    (evSeq (evIf (tNo (tst (evCall0 6 G_l_odd_right [.e (ev2 dIx (evF 2) (evV 14)), .e (ev2 dIx (evF 3) (evV 14)), .e (evV 9), .e (evV 12), .e (evV 13), .e (evCall0 4 G_l_some_stand [.c 4, .e (evV 9), .e (evV 13), .e (ev2 dIx (ev2 dIx (evF 3) (evV 14)) (ev1 dNeg (vD (.int 1))))])])))
    (evRet (vD (.bl false)))
    evNx)
    (evSeq (evAsg 15 (evTup [.e (evTup [.e (vD (.str "dry")), .e (vD (.int 1))]), .e (evTup [.e (vD (.int 0))])]))
    (evFor (itR2 (vD (.int 1)) (ev2 dAdd (evV 10) (vD (.int 1)))) (.n 16)
    (evSeq (evIf (tNo (tst (evCall0 2 G_l_same [.e (evCall0 4 G_f_next_stand [.e (ev2 dIx (evF 2) (evV 14)), .e (evV 12), .e (evV 15), .e (vD (.str "."))]), .e (evCall0 5 G_l_stand [.e (ev2 dIx (evF 3) (evV 14)), .e (evV 9), .e (evV 13), .e (evV 15), .e (vD (.str "."))])])))
    (evRet (vD (.bl false)))
    evNx)
    (evSeq (evIf (tNo (tst (evCall0 2 G_l_same [.e (evCall0 4 G_f_next_stand [.e (ev2 dIx (evF 2) (evV 14)), .e (evV 12), .e (evV 15), .e (vD (.str "#"))]), .e (evCall0 5 G_l_stand [.e (ev2 dIx (evF 3) (evV 14)), .e (evV 9), .e (evV 13), .e (evV 15), .e (vD (.str "#"))])])))
    (evRet (vD (.bl false)))
    evNx)
    (evIf (tst (ev2 dLt (evV 16) (evV 10)))
    (evAsg 15 (evCall0 5 G_l_stand [.e (ev2 dIx (evF 3) (evV 14)), .e (evV 9), .e (evV 13), .e (evV 15), .e (ev2 dIx (evV 11) (evV 16))]))
    evNx)))))))
    (evRet (vAn (evCall0 2 G_l_is [.e (ev2 dIx (evF 2) (vD (.int 0))), .e (ev2 dIx (evF 3) (vD (.int 0)))]) (evCall0 2 G_l_is [.e (ev2 dIx (evF 2) (vD (.int 1))), .e (ev2 dIx (evF 3) (vD (.int 1)))]))))))))))))))))
def G_l_law : Fn := run0 17 B_l_law
end DP
namespace DP
open PySem PySem.Spec PyProof.Rows L2 PL
/-- the rules, and the reckoning of slots -/
local macro_rules | `(tactic| walk_at "ys") => `(tactic| try simp (config := { maxSteps := 1000000, dsimp := false }) only [List.length_map, sg_len, sg_app, sg_dot, sg_hash, sg_nil, sg1, ↓Y_pur, ↓Y_fai, ↓Y_bnd, ↓Y_noEr, ↓Y_vD, ↓Y_evV, ↓Y_evF, ↓Y_evM, ↓Y_dat, ↓Y_tst, ↓Y_ev2, ↓Y_ev2c, ↓Y_ev1, ↓Y_seq, ↓Y_evIf, ↓Y_tNo, ↓Y_tAn, ↓Y_tOo, ↓Y_vNo, ↓Y_vAn, ↓Y_vOo, ↓Y_vIf, ↓Y_ch2, ↓Y_ch3, ↓Y_setD, ↓Y_setC, ↓Y_asg, ↓Y_asgC, ↓Y_ret, ↓Y_ex, ↓Y_nx, ↓Y_look, ↓Y_lookE,
  ↓Y_ds0, ↓Y_dsE, ↓Y_dsS, ↓Y_B, ↓Y_Bc, ↓Y_tup, ↓Y_lst, ↓Y_bmL, ↓Y_ixL, ↓Y_LstRg, ↓Y_SrtSt, ↓Y_Sc2, ↓Y_Rng2, ↓Y_asgX, ↓Y_Txm, gFind1, gFind3, gRfind4, ↓Y_setI, ↓Y_as0, ↓Y_asE, ↓Y_asC, ↓Y_callG, ↓Y_call, ↓Y_call0, ↓Y_BestN, ↓Y_st, ↓Y_ownIn, ↓Y_ownNin, ↓Y_callV, ↓Y_CallV, ↓Y_CallV0, ↓Y_CallVS, datas_0, datas_d, List.drop_succ_cons, List.drop_zero, ↓Y_own2, ↓Y_own2S, ↓Y_CallC, ↓Y_CallCS, ↓Y_mkL, ↓Y_callN, ↓Y_CallN, ↓Y_CallN0, ↓Y_mkG, ↓Y_mk, ↓Y_mk0, ↓Y_meth, ↓Y_methS, ↓Y_runB, ↓Y_run0, ↓Y_raise, ↓Y_raise1, ↓Y_raiseP, ↓Y_for, ↓Y_isi, ↓Y_tTr, ↓Y_fldS, ↓Y_asgN, ↓Y_dget, ↓Y_dget2, ↓Y_dput, ↓Y_sortDR, D.key, ↓Y_asgT, ↓Y_asgTt, ↓Y_asgTs0, ↓Y_asgTsC, ↓Y_part0, ↓Y_partS, ↓Y_sl, ↓Y_rev, ↓Y_vNoT, ↓Y_maxD, ↓Y_itO, ↓Y_lc, ↓Y_lc2, ↓Y_tryO, ↓Y_tryA, ↓Y_tryM, ↓Y_pick0, ↓Y_pickC, ↓Y_suiteA, eqL_ints, qe_ii, qe_bb, qe_ss, qe_nn, qe_ni, qe_in, qe_nb, qe_bn, qe_ns, qe_sn, qe_is, qe_si, qe_bs, qe_sb, in_ints, ↓Y_isE, ↓Y_js0, ↓Y_jsC, ↓Y_jn, ne_0, ne_d, ne_u, ne_c, ne_x, dFmt, cs_u, cs_d, cs_o, cs_x, okOwn, List.all_cons, List.all_nil, wipeR, restR, ↓Y_itS, ↓Y_join, ↓Y_xf, ↓Y_itL, ↓Y_itT, ↓Y_itR1, ↓Y_itET, ↓Y_itR3, ↓Y_itZ, ↓Y_itZS, ↓Y_cnt, ↓Y_itEL, ↓Y_itR2,
  List.getElem?_cons_zero, List.getElem?_cons_succ, List.getElem?_nil, List.set_cons_zero, List.set_cons_succ, List.replicate_succ, List.replicate_zero, List.cons_append, List.nil_append, List.append_nil, List.length_cons, List.length_nil, List.map_nil, List.map_cons, List.tail_cons, List.head?_cons, List.head?_nil, Option.getD_some, Option.getD_none, Option.map_some, Option.map_none, Option.bind_some, Option.bind_none, List.take_succ_cons, List.take_zero,
  at_0, at_1, at_2, at_3, at_4, at_5, at_6, at_7, ix_30, ix_31, ix_32, outs, argSl, back, updc, lkS_c, lkS_n, lk1_u, lk1_d, lk1_x, lk1_s, celsOf, fz_l, fz_k, fz_t, fz_lac, fz_cli, fz_wea, fz_rat, fz_ste, fz_web, fz_sky, fz_hab, fz_dia, pu_0, pu_lac, pu_rat, pu_web, pu_hab, ex_if, ex_so, ex_sb, lk_b, lk_bo, lk_ob, lk_o, lk_c, ty_n, ty_b, ty_i, ty_s, ty_t, ty_l, ty_q, ty_o, String.reduceEq, reduceCtorEq, reduceIte, dAdd, dSub, dMul, dDiv, dDivN, dMod, dPow, dNeg, dLt, dLe, dGt, dGe, dIx, dFld, dEq, dNe, dIs, dIsNot, dIsB, dNotB, D.isN, gLen, gInt, gMax2, gMin2, gMax3, gMin3, PL.gTup, PL.gLst, gLstO, D.items, D.litems, D.titems, D.truth, fApp, fClr, Rv.lfree, Rv.lfreeO, plfree, D.lfree, D.lfrees, cCat, dAddS, dMulS, dCatT,
  decide_eq_true_eq, Bool.not_eq_true', decide_eq_false_iff_not, true_and, and_true, if_true, if_false, Bool.false_eq_true, ite_true, ite_false, Bool.and_eq_true, Bool.and_true, Bool.true_and, Nat.reduceAdd, Nat.reduceLeDiff, List.nodup_nil, List.nodup_cons, List.not_mem_nil, not_false_eq_true, and_self])
theorem mOkL {i j : Int} (h : -(2 ^ 64) < i ∧ i < 2 ^ 64) : mulOk i j := .inl h
theorem dOk {j : Int} (h1 : 0 < j) (h2 : j < 1073741824) : divOk j := ⟨h1, .inl h2⟩
/-- a pool: three ints -/
abbrev Po (x y z : Int) : Sl := .cel .par (.lst [.int x, .int y, .int z])
theorem y_cell (ns : List Int) (k : Int) (hk : 0 ≤ k) {K : Rv → List Sl → Prop} (h : ∀ c : Int, K (.d (.int c)) [.dat (.sq (ns.map .int)), .dat (.int k)]) : Y G_l_cell [.dat (.sq (ns.map .int)), .dat (.int k)] K NX := by
  unfold G_l_cell B_l_cell
  walk_at "ys"
  split
  · rename_i c
    try rw [List.length_map] at c
    obtain ⟨n, rfl⟩ := Int.eq_ofNat_of_zero_le hk
    have l : n < ns.length := by omega
    refine ⟨_, ?_, h (ns[n])⟩
    rw [at_lt n (by simpa using l)]
    simp [l]
  · exact ⟨mOkL (by omega), h _⟩
theorem y_pool (c : Int) {K : Rv → List Sl → Prop} (h : ∀ x y z : Int, K (.c (.lst [.int x, .int y, .int z])) [.dat (.int c)]) : Y G_l_pool [.dat (.int c)] K NX := by
  unfold G_l_pool B_l_pool
  walk_at "ys"
  refine ⟨by decide, ?_⟩
  split
  · exact ⟨by decide, by omega, h _ _ _⟩
  · split
    · exact ⟨mOkL (by omega), by omega, h _ _ _⟩
    · exact ⟨mOkL (by omega), by omega, h _ _ _⟩
theorem y_take (x y z s : Int) (h1 : 1 ≤ s) (h2 : s < 1000000000) {K : Rv → List Sl → Prop} (h : ∀ d x' y' z' : Int, 0 ≤ d → d < s → K (.d (.int d)) [Po x' y' z', .dat (.int s)]) : Y G_l_take [Po x y z, .dat (.int s)] K NX := by
  unfold G_l_take B_l_take
  walk_at "ys"
  split
  · exact ⟨by omega, dOk (by omega) (by omega), h _ _ _ _ (Int.emod_nonneg _ (by omega)) (Int.emod_lt_of_pos _ (by omega))⟩
  · refine ⟨mOkL (by omega), by omega, ?_⟩
    generalize e1 : (y + 48271 * (z + 1) + 12345) % 2147483647 = u
    have u1 : 0 ≤ u ∧ u < 2147483647 := by omega
    refine ⟨mOkL (by omega), mOkL (by omega), by omega, ?_⟩
    generalize e2 : (u * u + 16807 * (z + 1) + 7) % 2147483629 = v
    have v1 : 0 ≤ v ∧ v < 2147483629 := by
      rw [← e2]; exact ⟨Int.emod_nonneg _ (by omega), Int.emod_lt_of_pos _ (by omega)⟩
    refine ⟨mOkL (by omega), mOkL (by omega), by omega, dOk (by omega) (by omega), by omega, ?_⟩
    exact h _ _ _ _ (Int.emod_nonneg _ (by omega)) (Int.emod_lt_of_pos _ (by omega))
/-- kinds as data -/
def kd (k : Int × Int) : D := .tup [.int k.1, .int k.2]
def kl (ks : List (Int × Int)) : List D := ks.map kd
theorem kl_snoc (ks : List (Int × Int)) (w g : Int) : kl ks ++ [.tup [.int w, .int g]] = kl (ks ++ [(w, g)]) := by simp [kl, kd]
theorem kl_len (ks : List (Int × Int)) : (kl ks).length = ks.length := List.length_map _
def Gd (p n : Int) (ks : List (Int × Int)) : Prop := ∀ k ∈ ks, 1 ≤ k.1 ∧ k.1 ≤ p ∧ 1 ≤ k.2 ∧ k.2 ≤ n
theorem Gd.snoc {p n : Int} {ks : List (Int × Int)} {w g : Int} (h : Gd p n ks) (a : 1 ≤ w) (b : w ≤ p) (c : 1 ≤ g) (d : g ≤ n) : Gd p n (ks ++ [(w, g)]) := by
  intro k hk
  rcases List.mem_append.mp hk with q | q
  · exact h k q
  · simp at q; subst q; exact ⟨a, b, c, d⟩
theorem rng_len (lo : Int) (n : Nat) : (rngD lo n).length = n := by simp [rngD]

theorem y_kinds (x y z m p n : Int) (h1 : 0 ≤ m) (h2 : m ≤ 100) (p1 : 1 ≤ p) (p2 : p < 1000) (n1 : 1 ≤ n) (n2 : n < 1000) {K : Rv → List Sl → Prop}
    (h : ∀ (ks : List (Int × Int)) (x' y' z' : Int), Gd p n ks → ks.length ≤ m → K (.c (.lst (kl ks))) [Po x' y' z', .dat (.int m), .dat (.int p), .dat (.int n)]) : Y G_l_kinds [Po x y z, .dat (.int m), .dat (.int p), .dat (.int n)] K NX := by
  unfold G_l_kinds B_l_kinds
  walk_at "ys"
  refine y_take _ _ _ _ (by omega) (by omega) fun d x1 y1 z1 d1 d2 => ?_
  walk_at "ys"
  refine ⟨by omega, ?_⟩
  refine Y_loop (I := fun r ρ => ∃ (ks : List (Int × Int)) (x y z : Int) (s5 s6 : Sl), ρ = [Po x y z, .dat (.int m), .dat (.int p), .dat (.int n), .cel .own (.lst (kl ks)), s5, s6] ∧ Gd p n ks ∧ (ks.length : Int) + r.length ≤ m ∧ canSet s5 = true ∧ canSet s6 = true)
    ⟨[], x1, y1, z1, .un, .un, rfl, fun _ h => by simp at h, by rw [rng_len]; simp; omega, rfl, rfl⟩ (fun e r ρ => ?_) (fun ρ => ?_)
  · rintro ⟨ks, x, y, z, s5, s6, rfl, g, l, c5, c6⟩
    rw [List.length_cons] at l
    walk_at "ys"
    refine ⟨c5, ?_⟩
    refine y_take _ _ _ _ (by omega) (by omega) fun w x2 y2 z2 w1 w2 => ?_
    walk_at "ys"
    refine ⟨c6, ?_⟩
    refine y_take _ _ _ _ (by omega) (by omega) fun v x3 y3 z3 v1 v2 => ?_
    walk_at "ys"
    rw [kl_len]
    refine ⟨by omega, ?_⟩
    rw [kl_snoc]
    exact ⟨_, _, _, _, _, _, rfl, g.snoc (by omega) (by omega) (by omega) (by omega), by rw [List.length_append, List.length_singleton]; omega, rfl, rfl⟩
  · rintro ⟨ks, x, y, z, s5, s6, rfl, g, l, c5, c6⟩
    walk_at "ys"
    exact h ks x y z g (by simp at l; omega)

theorem y_ab (x y z m : Int) (h1 : 2 ≤ m) (h2 : m < 1000) {K : Rv → List Sl → Prop} (h : ∀ a b x' y' z' : Int, 1 ≤ a → a < b → b ≤ m → K (.d (.tup [.int a, .int b])) [Po x' y' z', .dat (.int m)]) : Y G_l_ab [Po x y z, .dat (.int m)] K NX := by
  unfold G_l_ab B_l_ab
  walk_at "ys"
  refine y_take _ _ _ _ (by omega) (by omega) fun d x1 y1 z1 d1 d2 => ?_
  walk_at "ys"
  refine y_take _ _ _ _ (by omega) (by omega) fun e x2 y2 z2 e1 e2 => ?_
  walk_at "ys"
  exact h _ _ _ _ _ (by omega) (by omega) (by omega)

abbrev La (a b : Int) : D := .obj .Lacquer [.int a, .int b]
theorem y_lac (a b : Int) (h1 : 1 ≤ a) (h2 : a < b) (h3 : b ≤ 12) {K : Rv → List Sl → Prop} {X : XC} (h : K (.d .non) [.cel .par (.obj .Lacquer [("a", .int a), ("b", .int b)]), .dat (.int a), .dat (.int b)]) : Y G_Lacquer_init [.cel .par (.obj .Lacquer []), .dat (.int a), .dat (.int b)] K X := by
  unfold G_Lacquer_init B_Lacquer_init
  walk_at "ys"
  rw [if_pos h1, if_pos h2, if_neg (by omega)]
  exact ⟨by omega, by omega, h⟩

theorem y_check_kind (w g : Int) (w1 : 1 ≤ w) (w2 : w ≤ 16) (g1 : 1 ≤ g) (g2 : g ≤ 120) {K : Rv → List Sl → Prop} {X : XC} (h : K (.d .non) [.dat (.int w), .dat (.int g)]) : Y G_f_check_kind [.dat (.int w), .dat (.int g)] K X := by
  unfold G_f_check_kind B_f_check_kind
  walk_at "ys"
  simp only [w1, w2, g1, g2, decide_true, Bool.not_true, if_true, if_false, Bool.false_eq_true]
  exact h
theorem y_check_kinds (ks : List (Int × Int)) (hg : Gd 16 120 ks) (hl : ks.length ≤ 300) {K : Rv → List Sl → Prop} {X : XC} (h : K (.d .non) [.dat (.lst (kl ks))]) : Y G_f_check_kinds [.dat (.lst (kl ks))] K X := by
  unfold G_f_check_kinds B_f_check_kinds
  walk_at "ys"
  rw [kl_len, if_neg (by omega)]
  refine Y_loop (I := fun r ρ => ∃ (ms : List (Int × Int)) (s1 s2 : Sl), r = kl ms ∧ (∀ k ∈ ms, k ∈ ks) ∧ ρ = [.dat (.lst (kl ks)), s1, s2] ∧ canSet s1 = true ∧ canSet s2 = true)
    ⟨ks, .un, .un, rfl, fun _ h => h, rfl, rfl, rfl⟩ (fun e r ρ => ?_) (fun ρ => ?_)
  · rintro ⟨ms, s1, s2, er, sub, rfl, c1, c2⟩
    cases ms with
    | nil => cases er
    | cons k ms =>
      obtain ⟨w, g⟩ := k
      cases er
      have := hg (w, g) (sub _ List.mem_cons_self)
      unfold kd
      walk_at "ys"
      refine ⟨c1, c2, ?_⟩
      refine y_check_kind _ _ this.1 this.2.1 this.2.2.1 this.2.2.2 ?_
      exact ⟨ms, _, _, rfl, fun k hk => sub k (List.mem_cons_of_mem _ hk), rfl, rfl, rfl⟩
  · rintro ⟨ms, s1, s2, er, sub, rfl, c1, c2⟩
    walk_at "ys"
    exact h

/-- pairs (w, g): the least g of those with a first number of at least w, 0 without any -/
def lr (ks : List (Int × Int)) (w : Int) : Int := ks.foldl (fun best k => if k.1 ≥ w ∧ (best = 0 ∨ k.2 < best) then k.2 else best) 0
def Pos2 (ks : List (Int × Int)) : Prop := ∀ k ∈ ks, 1 ≤ k.2
/-- what the fold has when it starts from a number -/
theorem lr_from {w : Int} : ∀ (ks : List (Int × Int)) (b : Int), Pos2 ks → 0 ≤ b →
    let r := ks.foldl (fun best k => if k.1 ≥ w ∧ (best = 0 ∨ k.2 < best) then k.2 else best) b
    0 ≤ r ∧ (b ≠ 0 → r ≠ 0 ∧ r ≤ b) ∧ (∀ k ∈ ks, k.1 ≥ w → r ≠ 0 ∧ r ≤ k.2) ∧ (r = b ∨ ∃ k ∈ ks, k.1 ≥ w ∧ r = k.2)
  | [], b, _, hb => ⟨hb, fun h => ⟨h, Int.le_refl _⟩, fun _ h => by simp at h, .inl rfl⟩
  | k :: ks, b, hp, hb => by
    have hk := hp k List.mem_cons_self
    have hp' : Pos2 ks := fun x hx => hp x (List.mem_cons_of_mem _ hx)
    have h0 : 0 ≤ (if k.1 ≥ w ∧ (b = 0 ∨ k.2 < b) then k.2 else b) := by split <;> omega
    obtain ⟨i1, i2, i3, i4⟩ := lr_from (w := w) ks _ hp' h0
    simp only [List.foldl_cons]
    refine ⟨i1, fun hb0 => ?_, fun x hx hw => ?_, ?_⟩
    · by_cases c : k.1 ≥ w ∧ (b = 0 ∨ k.2 < b)
      · rw [if_pos c] at i2 ⊢
        obtain ⟨j1, j2⟩ := i2 (by omega)
        exact ⟨j1, by omega⟩
      · rw [if_neg c] at i2 ⊢
        exact i2 hb0
    · rcases List.mem_cons.mp hx with rfl | hx
      · by_cases c : x.1 ≥ w ∧ (b = 0 ∨ x.2 < b)
        · rw [if_pos c] at i2 ⊢
          obtain ⟨j1, j2⟩ := i2 (by omega)
          exact ⟨j1, by omega⟩
        · rw [if_neg c] at i2 ⊢
          obtain ⟨j1, j2⟩ := i2 (by omega)
          exact ⟨j1, by omega⟩
      · exact i3 x hx hw
    · rcases i4 with e | ⟨x, hx, h1, h2⟩
      · by_cases c : k.1 ≥ w ∧ (b = 0 ∨ k.2 < b)
        · rw [if_pos c] at e ⊢
          exact .inr ⟨k, List.mem_cons_self, c.1, e⟩
        · rw [if_neg c] at e ⊢
          exact .inl e
      · exact .inr ⟨x, List.mem_cons_of_mem _ hx, h1, h2⟩
theorem lr_nn {ks : List (Int × Int)} (hp : Pos2 ks) (w : Int) : 0 ≤ lr ks w := (lr_from (w := w) ks 0 hp (by decide)).1
theorem lr_le {ks : List (Int × Int)} (hp : Pos2 ks) {w : Int} {k : Int × Int} (hk : k ∈ ks) (h : w ≤ k.1) : 0 < lr ks w ∧ lr ks w ≤ k.2 := by
  have z := lr_from (w := w) ks 0 hp (by decide)
  have z2 := z.2.2.1 k hk h
  have z1 := z.1
  show 0 < List.foldl _ _ _ ∧ List.foldl _ _ _ ≤ k.2
  exact ⟨by omega, z2.2⟩
theorem lr_mem {ks : List (Int × Int)} (hp : Pos2 ks) {w : Int} (h : 0 < lr ks w) : ∃ k ∈ ks, w ≤ k.1 ∧ lr ks w = k.2 := by
  rcases (lr_from (w := w) ks 0 hp (by decide)).2.2.2 with e | ⟨k, h1, h2, h3⟩
  · exact absurd (show lr ks w = 0 from e) (by omega)
  · exact ⟨k, h1, h2, h3⟩
/-- said without the fold -/
theorem lr_iff {ks : List (Int × Int)} (hp : Pos2 ks) {w r : Int} : lr ks w = r ↔ (r = 0 ∧ ∀ k ∈ ks, k.1 < w) ∨ (0 < r ∧ (∃ k ∈ ks, w ≤ k.1 ∧ k.2 = r) ∧ ∀ k ∈ ks, w ≤ k.1 → r ≤ k.2) := by
  constructor
  · rintro rfl
    by_cases h : 0 < lr ks w
    · obtain ⟨k, h1, h2, h3⟩ := lr_mem hp h
      exact .inr ⟨h, ⟨k, h1, h2, h3.symm⟩, fun k hk hw => (lr_le hp hk hw).2⟩
    · refine .inl ⟨by have := lr_nn hp w; omega, fun k hk => ?_⟩
      rcases Int.lt_or_le k.1 w with c | c
      · exact c
      · exact absurd (lr_le hp hk c).1 h
  · rintro (⟨rfl, h⟩ | ⟨h0, ⟨k, hk, hw, e⟩, h⟩)
    · by_cases c : 0 < lr ks w
      · obtain ⟨k, h1, h2, _⟩ := lr_mem hp c
        have := h k h1
        omega
      · have := lr_nn hp w
        omega
    · obtain ⟨c1, c2⟩ := lr_le hp hk hw
      obtain ⟨k2, h1, h2, h3⟩ := lr_mem hp c1
      have := h k2 h1 h2
      omega
/-- the plain list -/
def keepW (ks : List (Int × Int)) (w : Int) : Bool := decide (0 < lr ks w) && decide (lr ks w ≠ lr ks (w + 1))
def upTo (n : Nat) : List Int := (List.range n).map fun (i : Nat) => (i : Int) + 1
def pl (ks : List (Int × Int)) : List (Int × Int) := ((upTo 16).filter (keepW ks)).map fun w => (w, lr ks w)
theorem lr_mono {ks : List (Int × Int)} (hp : Pos2 ks) {v w : Int} (h : v ≤ w) : lr ks w = 0 ∨ (0 < lr ks v ∧ lr ks v ≤ lr ks w) := by
  by_cases c : 0 < lr ks w
  · obtain ⟨k, h1, h2, h3⟩ := lr_mem hp c
    have := lr_le hp h1 (w := v) (by omega)
    exact .inr ⟨this.1, by omega⟩
  · have := lr_nn hp w
    exact .inl (by omega)
/-- where it turns there is a pair with just this first number -/
theorem keep_mem {ks : List (Int × Int)} (hp : Pos2 ks) {w : Int} (h : keepW ks w = true) : ∃ k ∈ ks, k.1 = w ∧ k.2 = lr ks w := by
  unfold keepW at h
  (simp only [Bool.and_eq_true, decide_eq_true_eq] at h)
  obtain ⟨k, h1, h2, h3⟩ := lr_mem hp h.1
  rcases Int.lt_or_le w k.1 with c | c
  · have z := lr_le hp h1 (w := w + 1) (by omega)
    rcases lr_mono hp (show w ≤ w + 1 by omega) with y | y <;> omega
  · exact ⟨k, h1, by omega, h3.symm⟩
/-- between first numbers nothing turns -/
theorem lr_gap {ks : List (Int × Int)} (hp : Pos2 ks) {v w : Int} (h : v ≤ w) (hn : ∀ k ∈ ks, ¬ (v ≤ k.1 ∧ k.1 < w)) : lr ks v = lr ks w := by
  refine (lr_iff hp).mpr ?_
  by_cases c : 0 < lr ks w
  · obtain ⟨k, h1, h2, h3⟩ := lr_mem hp c
    refine .inr ⟨c, ⟨k, h1, by omega, h3.symm⟩, fun x hx hv => ?_⟩
    rcases Int.lt_or_le x.1 w with d | d
    · exact absurd ⟨hv, d⟩ (hn x hx)
    · exact (lr_le hp hx d).2
  · have z := lr_nn hp w
    refine .inl ⟨by omega, fun k hk => ?_⟩
    rcases Int.lt_or_le k.1 v with d | d
    · exact d
    · rcases Int.lt_or_le k.1 w with e | e
      · exact absurd ⟨d, e⟩ (hn k hk)
      · exact absurd (lr_le hp hk e).1 c
/-- two rising lists with the same items are one -/
theorem rise_ext : ∀ {xs ys : List Int}, xs.Pairwise (· < ·) → ys.Pairwise (· < ·) → (∀ a, a ∈ xs ↔ a ∈ ys) → xs = ys
  | [], [], _, _, _ => rfl
  | [], y :: ys, _, _, h => absurd ((h y).mpr List.mem_cons_self) (by simp)
  | x :: xs, [], _, _, h => absurd ((h x).mp List.mem_cons_self) (by simp)
  | x :: xs, y :: ys, h1, h2, h => by
    rw [List.pairwise_cons] at h1 h2
    have e : x = y := by
      rcases List.mem_cons.mp ((h x).mp List.mem_cons_self) with e | e
      · exact e
      · rcases List.mem_cons.mp ((h y).mpr List.mem_cons_self) with e2 | e2
        · exact e2.symm
        · have a := h1.1 y e2
          have b := h2.1 x e
          omega
    subst e
    rw [rise_ext h1.2 h2.2 fun a => ?_]
    constructor
    · intro ha
      rcases List.mem_cons.mp ((h a).mp (List.mem_cons_of_mem _ ha)) with e | e
      · subst e
        exact absurd (h1.1 a ha) (Int.lt_irrefl _)
      · exact e
    · intro ha
      rcases List.mem_cons.mp ((h a).mpr (List.mem_cons_of_mem _ ha)) with e | e
      · subst e
        exact absurd (h2.1 a ha) (Int.lt_irrefl _)
      · exact e
theorem upTo_mem {n : Nat} {w : Int} : w ∈ upTo n ↔ 1 ≤ w ∧ w ≤ n := by
  unfold upTo
  rw [List.mem_map]
  constructor
  · rintro ⟨i, hi, rfl⟩
    have := List.mem_range.mp hi
    omega
  · rintro ⟨h1, h2⟩
    exact ⟨(w - 1).toNat, List.mem_range.mpr (by omega), by omega⟩
theorem upTo_rise (n : Nat) : (upTo n).Pairwise (· < ·) := by
  unfold upTo
  rw [List.pairwise_map]
  exact List.Pairwise.imp (R := fun a b : Nat => a < b) (fun {a b} (h : a < b) => show (a : Int) + 1 < (b : Int) + 1 by omega) List.pairwise_lt_range
/-- the kept ones of all first numbers are the kept ones of one to sixteen -/
theorem pl_of_keys {ks : List (Int × Int)} (hp : Pos2 ks) (hw : ∀ k ∈ ks, 1 ≤ k.1 ∧ k.1 ≤ 16) {ws : List Int} (hr : ws.Pairwise (· < ·)) (hm : ∀ w, w ∈ ws ↔ ∃ k ∈ ks, k.1 = w) : (ws.filter (keepW ks)).map (fun w => (w, lr ks w)) = pl ks := by
  unfold pl
  congr 1
  refine rise_ext (hr.filter _) ((upTo_rise 16).filter _) fun a => ?_
  rw [List.mem_filter, List.mem_filter, upTo_mem, hm]
  constructor
  · rintro ⟨⟨k, hk, rfl⟩, h⟩
    have := hw k hk
    exact ⟨by omega, h⟩
  · rintro ⟨_, h⟩
    obtain ⟨k, hk, e, _⟩ := keep_mem hp h
    exact ⟨⟨k, hk, e⟩, h⟩
/-- the least second number of the pairs with just this first number -/
def mw (ks : List (Int × Int)) (w : Int) : Option Int := ks.foldl (fun o k => if k.1 = w then some (o.elim k.2 (min k.2)) else o) none
theorem mw_snoc (ks : List (Int × Int)) (k : Int × Int) (w : Int) : mw (ks ++ [k]) w = if k.1 = w then some ((mw ks w).elim k.2 (min k.2)) else mw ks w := by
  unfold mw
  rw [List.foldl_append]
  rfl
theorem mw_spec {w : Int} : ∀ (ks : List (Int × Int)) (o : Option Int), (∀ m, ks.foldl (fun o k => if k.1 = w then some (o.elim k.2 (min k.2)) else o) o = some m →
    (o = some m ∨ ∃ k ∈ ks, k.1 = w ∧ k.2 = m) ∧ (∀ x, o = some x → m ≤ x) ∧ ∀ k ∈ ks, k.1 = w → m ≤ k.2) ∧ (ks.foldl (fun o k => if k.1 = w then some (o.elim k.2 (min k.2)) else o) o = none → o = none ∧ ∀ k ∈ ks, k.1 ≠ w)
  | [], o => ⟨fun m h => ⟨.inl h, fun x hx => by
      have h' : o = some m := h
      rw [hx] at h'
      cases h'
      exact Int.le_refl _, fun _ h => by simp at h⟩, fun h => ⟨h, fun _ h => by simp at h⟩⟩
  | k :: ks, o => by
    obtain ⟨i1, i2⟩ := mw_spec (w := w) ks (if k.1 = w then some (o.elim k.2 (min k.2)) else o)
    simp only [List.foldl_cons]
    constructor
    · intro m hm
      obtain ⟨j1, j2, j3⟩ := i1 m hm
      by_cases c : k.1 = w
      · rw [if_pos c] at j1 j2
        have j2' := j2 _ rfl
        cases o with
        | none =>
          have j4 : m ≤ k.2 := j2'
          refine ⟨?_, ⟨fun x (hx : none = some x) => (nomatch hx), fun x hx hw => ?_⟩⟩
          · rcases j1 with e | ⟨x, hx, h⟩
            · exact .inr ⟨k, List.mem_cons_self, c, Option.some.inj e⟩
            · exact .inr ⟨x, List.mem_cons_of_mem _ hx, h⟩
          · rcases List.mem_cons.mp hx with rfl | hx
            · exact j4
            · exact j3 x hx hw
        | some y =>
          have j4 : m ≤ min k.2 y := j2'
          refine ⟨?_, fun x hx => ?_, fun x hx hw => ?_⟩
          · rcases j1 with e | ⟨x, hx, h⟩
            · have e' : min k.2 y = m := Option.some.inj e
              rcases Int.le_total k.2 y with z | z
              · exact .inr ⟨k, List.mem_cons_self, c, by omega⟩
              · exact .inl (by congr 1; omega)
            · exact .inr ⟨x, List.mem_cons_of_mem _ hx, h⟩
          · cases hx
            omega
          · rcases List.mem_cons.mp hx with rfl | hx
            · omega
            · exact j3 x hx hw
      · rw [if_neg c] at j1 j2
        refine ⟨?_, j2, fun x hx hw => ?_⟩
        · rcases j1 with e | ⟨x, hx, h⟩
          · exact .inl e
          · exact .inr ⟨x, List.mem_cons_of_mem _ hx, h⟩
        · rcases List.mem_cons.mp hx with rfl | hx
          · exact absurd hw c
          · exact j3 x hx hw
    · intro hm
      obtain ⟨j1, j2⟩ := i2 hm
      by_cases c : k.1 = w
      · rw [if_pos c] at j1
        cases j1
      · rw [if_neg c] at j1
        refine ⟨j1, fun x hx => ?_⟩
        (rcases List.mem_cons.mp hx with rfl | hx)
        · exact c
        · exact j2 x hx
theorem mw_some {ks : List (Int × Int)} {w m : Int} (h : mw ks w = some m) : (∃ k ∈ ks, k.1 = w ∧ k.2 = m) ∧ ∀ k ∈ ks, k.1 = w → m ≤ k.2 := by
  obtain ⟨h1, _, h3⟩ := (mw_spec ks none).1 m h
  rcases h1 with h1 | h1
  · cases h1
  · exact ⟨h1, h3⟩
theorem mw_of {ks : List (Int × Int)} {w : Int} (h : ∃ k ∈ ks, k.1 = w) : ∃ m, mw ks w = some m := by
  cases e : mw ks w with
  | some m => exact ⟨m, rfl⟩
  | none =>
    obtain ⟨k, hk, hw⟩ := h
    exact absurd hw (((mw_spec ks none).2 e).2 k hk)
/-- how the least run goes on downwards -/
theorem lr_down {ks : List (Int × Int)} (hp : Pos2 ks) {w m : Int} (h : mw ks w = some m) : lr ks w = if lr ks (w + 1) = 0 then m else min m (lr ks (w + 1)) := by
  obtain ⟨⟨k, hk, e1, e2⟩, h2⟩ := mw_some h
  have hm := hp k hk
  refine (lr_iff hp).mpr (.inr ?_)
  by_cases c : lr ks (w + 1) = 0
  · rw [if_pos c]
    refine ⟨by omega, ⟨k, hk, by omega, e2⟩, fun x hx hw => ?_⟩
    rcases Int.lt_or_le w x.1 with d | d
    · have := (lr_le hp hx (w := w + 1) (by omega)).1
      omega
    · exact h2 x hx (by omega)
  · rw [if_neg c]
    have cp : 0 < lr ks (w + 1) := by have := lr_nn hp (w + 1); omega
    obtain ⟨k2, g1, g2, g3⟩ := lr_mem hp cp
    refine ⟨by omega, ?_, fun x hx hw => ?_⟩
    · rcases Int.le_total m (lr ks (w + 1)) with d | d
      · exact ⟨k, hk, by omega, by omega⟩
      · exact ⟨k2, g1, by omega, by omega⟩
    · rcases Int.lt_or_le w x.1 with d | d
      · have := (lr_le hp hx (w := w + 1) (by omega)).2
        omega
      · have := h2 x hx (by omega)
        omega
/-- the first numbers from above: what has been kept of the first i -/
def stI (ks : List (Int × Int)) (ys : List Int) (i : Nat) : List (Int × Int) := ((ys.take i).filter (keepW ks)).map fun w => (w, lr ks w)
theorem stI_succ {ks : List (Int × Int)} {ys : List Int} {i : Nat} {w : Int} (h : ys[i]? = some w) : stI ks ys (i + 1) = stI ks ys i ++ (if keepW ks w = true then [(w, lr ks w)] else []) := by
  unfold stI
  rw [List.take_add_one, h, List.filter_append, List.map_append]
  congr 1
  show (List.filter (keepW ks) [w]).map _ = _
  by_cases c : keepW ks w = true
  · rw [if_pos c, List.filter_cons_of_pos c]
    rfl
  · rw [if_neg c, List.filter_cons_of_neg c]
    rfl
/-- behind the one at i nothing stands between it and the next one -/
theorem desc_gap {ys : List Int} (hd : ys.Pairwise (· > ·)) {i : Nat} {v w : Int} (h1 : ys[i]? = some v) (h2 : ys[i + 1]? = some w) : w < v ∧ ∀ y ∈ ys, ¬ (w + 1 ≤ y ∧ y < v) := by
  obtain ⟨l1, e1⟩ := List.getElem?_eq_some_iff.mp h1
  obtain ⟨l2, e2⟩ := List.getElem?_eq_some_iff.mp h2
  have hp := List.pairwise_iff_getElem.mp hd
  refine ⟨?_, fun y hy => ?_⟩
  · have := hp i (i + 1) l1 l2 (Nat.lt_succ_self i)
    omega
  · obtain ⟨j, hj, e⟩ := List.mem_iff_getElem.mp hy
    rintro ⟨z1, z2⟩
    rcases Nat.lt_trichotomy j i with c | c | c
    · have := hp j i hj l1 c
      omega
    · subst c
      omega
    · rcases Nat.lt_or_ge (i + 1) j with d | d
      · have := hp (i + 1) j l2 hj d
        omega
      · have : j = i + 1 := by omega
        subst this
        omega
theorem desc_top {ys : List Int} (hd : ys.Pairwise (· > ·)) {w : Int} (h : ys[0]? = some w) : ∀ y ∈ ys, y ≤ w := by
  cases ys with
  | nil => cases h
  | cons z ys =>
    cases h
    intro y hy
    (rcases List.mem_cons.mp hy with rfl | hy)
    · exact Int.le_refl _
    · exact Int.le_of_lt ((List.pairwise_cons.mp hd).1 y hy)
theorem lr_top {ks : List (Int × Int)} (hp : Pos2 ks) {w : Int} (h : ∀ k ∈ ks, k.1 ≤ w) : lr ks (w + 1) = 0 := (lr_iff hp).mpr (.inl ⟨rfl, fun k hk => by have := h k hk; omega⟩)
/-- the turn at the place i: what stands last so far, and what it says -/
theorem st_turn {ks : List (Int × Int)} (hp : Pos2 ks) {ys : List Int} (hd : ys.Pairwise (· > ·)) (hm : ∀ w, w ∈ ys ↔ ∃ k ∈ ks, k.1 = w) : ∀ (i : Nat) (w m : Int), ys[i]? = some w → mw ks w = some m →
    (stI ks ys i = [] ∧ keepW ks w = true ∧ lr ks w = m) ∨ ∃ init v, stI ks ys i = init ++ [v] ∧ ((m < v.2 ∧ keepW ks w = true ∧ lr ks w = m) ∨ (¬ m < v.2 ∧ keepW ks w = false ∧ lr ks w = v.2))
  | 0, w, m, h, e => by
    have top : lr ks (w + 1) = 0 := lr_top hp fun k hk => desc_top hd h _ ((hm _).mpr ⟨k, hk, rfl⟩)
    have dn := lr_down hp e
    rw [if_pos top] at dn
    obtain ⟨⟨k, hk, _, e2⟩, _⟩ := mw_some e
    have := hp k hk
    refine .inl ⟨rfl, ?_, dn⟩
    unfold keepW
    rw [top, dn]
    (simp only [Bool.and_eq_true, decide_eq_true_eq])
    omega
  | i + 1, w, m, h, e => by
    obtain ⟨l, _⟩ := List.getElem?_eq_some_iff.mp h
    obtain ⟨v, hv⟩ : ∃ v, ys[i]? = some v := ⟨_, List.getElem?_eq_getElem (by omega)⟩
    obtain ⟨mv, ev⟩ := mw_of ((hm v).mp (List.mem_of_getElem? hv))
    obtain ⟨g1, g2⟩ := desc_gap hd hv h
    have gap : lr ks (w + 1) = lr ks v := lr_gap hp (by omega) fun k hk => g2 _ ((hm _).mpr ⟨k, hk, rfl⟩)
    obtain ⟨⟨kv, hkv, e3, _⟩, _⟩ := mw_some ev
    have vp := (lr_le hp hkv (w := v) (by omega)).1
    have dn := lr_down hp e
    rw [gap, if_neg (by omega)] at dn
    obtain ⟨⟨k, hk, _, e2⟩, _⟩ := mw_some e
    have mp := hp k hk
    have fin : ∀ {init : List (Int × Int)} {x : Int × Int}, stI ks ys (i + 1) = init ++ [x] → x.2 = lr ks v → (m < x.2 ∧ keepW ks w = true ∧ lr ks w = m) ∨ (¬ m < x.2 ∧ keepW ks w = false ∧ lr ks w = x.2) := by
      intro init x _ ex
      rw [ex]
      by_cases c : m < lr ks v
      · refine .inl ⟨c, ?_, by omega⟩
        unfold keepW
        rw [gap]
        (simp only [Bool.and_eq_true, decide_eq_true_eq])
        omega
      · refine .inr ⟨c, ?_, by omega⟩
        unfold keepW
        rw [gap, show lr ks w = lr ks v by omega]
        simp
    right
    rcases st_turn hp hd hm i v mv hv ev with ⟨s0, kv1, e1⟩ | ⟨init, x, s1, ⟨_, kv1, e1⟩ | ⟨_, kv1, e1⟩⟩
    · have s : stI ks ys (i + 1) = [] ++ [(v, lr ks v)] := by rw [stI_succ hv, s0, if_pos kv1]
      exact ⟨_, _, s, fin s rfl⟩
    · have s : stI ks ys (i + 1) = (init ++ [x]) ++ [(v, lr ks v)] := by rw [stI_succ hv, s1, if_pos kv1]
      exact ⟨_, _, s, fin s rfl⟩
    · have s : stI ks ys (i + 1) = init ++ [x] := by rw [stI_succ hv, s1, if_neg (by rw [kv1]; simp), List.append_nil]
      exact ⟨_, _, s, fin s e1.symm⟩
theorem st_end {ks : List (Int × Int)} (hp : Pos2 ks) (hw : ∀ k ∈ ks, 1 ≤ k.1 ∧ k.1 ≤ 16) {ys : List Int} (hd : ys.Pairwise (· > ·)) (hm : ∀ w, w ∈ ys ↔ ∃ k ∈ ks, k.1 = w) : (stI ks ys ys.length).reverse = pl ks := by
  unfold stI
  rw [List.take_length, ← List.map_reverse, ← List.filter_reverse]
  exact pl_of_keys hp hw (List.pairwise_reverse.mpr hd) fun w => by rw [List.mem_reverse, hm]

theorem Gd.pos {p n : Int} {ks : List (Int × Int)} (h : Gd p n ks) : Pos2 ks := fun k hk => (h k hk).2.2.1
/-- what the dict knows of the pairs -/
def DI (ks : List (Int × Int)) (kvs : List (Key × D)) : Prop := ∃ ws : List Int, kvs.map (·.1) = ws.map Sum.inl ∧ ws.Nodup ∧ (∀ w, w ∈ ws ↔ ∃ k ∈ ks, k.1 = w) ∧ (∀ w, dval kvs (Sum.inl w) = (mw ks w).map D.int) ∧ ws.length ≤ ks.length
theorem DI.nil : DI [] [] := ⟨[], rfl, .nil, fun w => by simp, fun w => rfl, by simp⟩
theorem DI.len {ks : List (Int × Int)} {kvs : List (Key × D)} (h : DI ks kvs) : kvs.length ≤ ks.length := by
  obtain ⟨ws, h1, _, _, _, h5⟩ := h
  have := congrArg List.length h1
  rw [List.length_map, List.length_map] at this
  omega
theorem DI.put {ks : List (Int × Int)} {kvs : List (Key × D)} {k : Int × Int} (h : DI ks kvs) : DI (ks ++ [k]) (dput kvs (Sum.inl k.1) (.int ((mw ks k.1).elim k.2 (min k.2)))) := by
  obtain ⟨ws, h1, h2, h3, h4, h5⟩ := h
  have hin : (Sum.inl k.1 : Key) ∈ kvs.map (·.1) ↔ k.1 ∈ ws := by
    rw [h1, List.mem_map]
    constructor
    · rintro ⟨x, hx, e⟩
      cases e
      exact hx
    · exact fun h => ⟨_, h, rfl⟩
  have val : ∀ w, dval (dput kvs (Sum.inl k.1) (.int ((mw ks k.1).elim k.2 (min k.2)))) (Sum.inl w) = (mw (ks ++ [k]) w).map D.int := fun w => by
    rw [dval_put, mw_snoc]
    by_cases e : k.1 = w
    · subst e
      rw [if_pos rfl, if_pos rfl]
      rfl
    · rw [if_neg (fun z => e (Sum.inl.inj z).symm), if_neg e, h4]
  by_cases c : k.1 ∈ ws
  · refine ⟨ws, by rw [dput_in (hin.mpr c), h1], h2, fun w => ?_, val, by simp; omega⟩
    rw [h3]
    constructor
    · rintro ⟨x, hx, e⟩
      exact ⟨x, List.mem_append_left _ hx, e⟩
    · rintro ⟨x, hx, e⟩
      (rcases List.mem_append.mp hx with hx | hx)
      · exact ⟨x, hx, e⟩
      · have e2 : x = k := by simpa using hx
        subst e2
        rw [← e]
        exact (h3 _).mp c
  · refine ⟨ws ++ [k.1], by rw [dput_out (fun z => c (hin.mp z)), h1, List.map_append]; rfl, ?_, fun w => ?_, val, by simp; omega⟩
    · rw [List.nodup_append]
      refine ⟨h2, by simp, fun a ha b hb => ?_⟩
      have e2 : b = k.1 := by simpa using hb
      subst e2
      exact fun z => c (z ▸ ha)
    · rw [List.mem_append, h3]
      constructor
      · rintro (⟨x, hx, e⟩ | hx)
        · exact ⟨x, List.mem_append_left _ hx, e⟩
        · have e2 : w = k.1 := by simpa using hx
          exact ⟨k, by simp, e2.symm⟩
      · rintro ⟨x, hx, e⟩
        (rcases List.mem_append.mp hx with hx | hx)
        · exact .inl ⟨x, hx, e⟩
        · have e2 : x = k := by simpa using hx
          subst e2
          exact .inr (by simp [e])
theorem at_last {α : Type} (l : List α) (a : α) : atI (l ++ [a]) (-1) = some a := by
  unfold atI ixN
  rw [if_neg (by omega), if_pos (by simp; omega)]
  simp only [List.length_append, List.length_singleton, Option.bind_some]
  rw [show (-1 + ((l.length + 1 : Nat) : Int)).toNat = l.length by omega]
  simp
theorem y_plain (ks : List (Int × Int)) (hg : Gd 16 120 ks) (hl : ks.length ≤ 300) {K : Rv → List Sl → Prop} {X : XC} (h : K (.c (.lst (kl (pl ks)))) [.dat (.lst (kl ks))]) : Y G_f_plain_list [.dat (.lst (kl ks))] K X := by
  unfold G_f_plain_list B_f_plain_list
  walk_at "ys"
  refine Y_loop (I := fun r ρ => ∃ (dn rest : List (Int × Int)) (kvs : List (Key × D)) (s2 s3 : Sl), ks = dn ++ rest ∧ r = kl rest ∧ DI dn kvs ∧ ρ = [.dat (.lst (kl ks)), .cel .own (.dK kvs), s2, s3, .un] ∧ canSet s2 = true ∧ canSet s3 = true)
    ⟨[], ks, [], .un, .un, rfl, rfl, DI.nil, rfl, rfl, rfl⟩ (fun e r ρ => ?_) (fun ρ => ?_)
  · rintro ⟨dn, rest, kvs, s2, s3, ek, er, hD, rfl, c2, c3⟩
    cases rest with
    | nil => cases er
    | cons k rest =>
      obtain ⟨w, g⟩ := k
      cases er
      have step := hD.put (k := (w, g))
      have hv : dval kvs (Sum.inl w) = (mw dn w).map D.int := let ⟨_, _, _, _, z, _⟩ := hD; z w
      have hn : kvs.length < 16777216 := by have := hD.len; have := congrArg List.length ek; simp at this; omega
      unfold kd
      walk_at "ys"
      refine ⟨c2, c3, ?_⟩
      have fin : ∀ m, m = (mw dn w).elim g (min g) → ∃ (dn rest' : List (Int × Int)) (kvs' : List (Key × D)) (s2 s3 : Sl), ks = dn ++ rest' ∧ kl rest = kl rest' ∧ DI dn kvs' ∧ [Sl.dat (.lst (kl ks)), .cel .own (.dK (dput kvs (Sum.inl w) (.int m))), .dat (.int w), .dat (.int g), .un] = [.dat (.lst (kl ks)), .cel .own (.dK kvs'), s2, s3, .un] ∧ canSet s2 = true ∧ canSet s3 = true := by
        rintro m rfl
        exact ⟨dn ++ [(w, g)], rest, _, _, _, by rw [ek]; simp, rfl, step, rfl, rfl, rfl⟩
      rw [hv]
      cases hm : mw dn w with
      | none =>
        walk_at "ys"
        refine ⟨hn, fin _ ?_⟩
        rw [hm]
        show min g g = g
        omega
      | some m =>
        walk_at "ys"
        refine ⟨hn, fin _ ?_⟩
        rw [hm]; rfl
  · rintro ⟨dn, rest, kvs, s2, s3, ek, er, hD, rfl, c2, c3⟩
    cases rest with
    | cons => cases er
    | nil =>
    rw [List.append_nil] at ek
    subst ek
    obtain ⟨ws, w1, w2, w3, w4, w5⟩ := id hD
    walk_at "ys"
    refine ⟨_, keysI_of w1, ?_⟩
    have yp := down_perm ws
    have ydesc : (down ws).Pairwise (· > ·) := (List.pairwise_and_iff.mpr ⟨down_srt ws, yp.nodup_iff.mpr w2⟩).imp fun {a b} h => by
      have h1 : a ≥ b := h.1
      have h2 : a ≠ b := h.2
      show a > b
      omega
    have ymem : ∀ w, w ∈ down ws ↔ ∃ k ∈ ks, k.1 = w := fun w => yp.mem_iff.trans (w3 w)
    have yl : (down ws).length = ws.length := yp.length_eq
    generalize down ws = yy at *
    refine Y_loop (I := fun r ρ => ∃ (i : Nat) (s2 : Sl), r = (yy.drop i).map D.int ∧ i ≤ yy.length ∧ ρ = [.dat (.lst (kl ks)), .cel .own (.dK kvs), s2, s3, .cel .own (.lst (kl (stI ks yy i)))] ∧ canSet s2 = true)
      ⟨0, s2, rfl, Nat.zero_le _, rfl, c2⟩ (fun e r ρ => ?_) (fun ρ => ?_)
    · rintro ⟨i, s2, er, il, rfl, c2⟩
      have hi : i < yy.length := by
        rcases Nat.lt_or_ge i yy.length with c | c
        · exact c
        · rw [List.drop_eq_nil_of_le c] at er; cases er
      have hw : yy[i]? = some yy[i] := List.getElem?_eq_getElem hi
      generalize yy[i] = w at hw
      have ed : yy.drop i = w :: yy.drop (i + 1) := by
        rw [List.drop_eq_getElem_cons hi]
        have := List.getElem?_eq_getElem hi
        rw [hw] at this
        cases this
        rfl
      rw [ed] at er
      cases er
      obtain ⟨m, em⟩ := mw_of ((ymem w).mp (List.mem_of_getElem? hw))
      have hval : dval kvs (Sum.inl w) = some (.int m) := by rw [w4, em]; rfl
      have sz : (stI ks yy i).length < 16777216 := by
        unfold stI
        try rw [List.length_map]
        exact Nat.lt_of_le_of_lt (List.length_filter_le _ _) (by rw [List.length_take]; omega)
      have sucT : keepW ks w = true → lr ks w = m → stI ks yy (i + 1) = stI ks yy i ++ [(w, m)] := fun c1 c2 => by rw [stI_succ hw, if_pos c1, c2]
      have sucF : keepW ks w = false → stI ks yy (i + 1) = stI ks yy i := fun c1 => by rw [stI_succ hw, if_neg (by rw [c1]; simp), List.append_nil]
      walk_at "ys"
      refine ⟨c2, ?_⟩
      rcases st_turn hg.pos ydesc ymem i w m hw em with ⟨s0, c1, c2⟩ | ⟨init, x, s1, c⟩
      · rw [s0]
        simp only [kl, List.map_nil, List.isEmpty_nil, Bool.not_true, Bool.not_false, if_true]
        rw [hval]
        walk_at "ys"
        refine ⟨by omega, i + 1, .dat (.int w), rfl, hi, ?_, rfl⟩
        rw [sucT c1 c2, s0]
        rfl
      · have e1 : kl (stI ks yy i) = kl init ++ [kd x] := by rw [s1]; simp [kl]
        rw [← kl_len] at sz
        rw [e1] at sz ⊢
        have ne : (kl init ++ [kd x]).isEmpty = false := by simp
        rw [ne, at_last, if_neg (by decide), hval]
        obtain ⟨xw, xg⟩ := x
        simp only [kd] at e1 sz ⊢
        walk_at "ys"
        rcases c with ⟨c, k1, k2⟩ | ⟨c, k1, k2⟩
        · rw [if_pos c]
          refine ⟨sz, i + 1, .dat (.int w), rfl, hi, ?_, rfl⟩
          rw [sucT k1 k2, ← kl_snoc, e1]
        · rw [if_neg c]
          refine ⟨i + 1, .dat (.int w), rfl, hi, ?_, rfl⟩
          rw [sucF k1, e1]
    · rintro ⟨i, s2, er, il, rfl, c2⟩
      have : i = yy.length := by
        rcases Nat.lt_or_ge i yy.length with c | c
        · rw [List.drop_eq_getElem_cons c] at er; cases er
        · omega
      subst this
      walk_at "ys"
      have := st_end hg.pos (fun k hk => ⟨(hg k hk).1, (hg k hk).2.1⟩) ydesc ymem
      unfold kl
      rw [← List.map_reverse, this]
      exact h

/-- a climate as data -/
abbrev Ci (ks : List (Int × Int)) : D := .obj .Climate [.tup (kl (pl ks))]
theorem pl_len (ks : List (Int × Int)) : (pl ks).length ≤ 16 := by
  unfold pl
  try rw [List.length_map]
  exact Nat.le_trans (List.length_filter_le _ _) (by simp [upTo])
theorem y_clim (ks : List (Int × Int)) (hg : Gd 16 120 ks) (hl : ks.length ≤ 300) {K : Rv → List Sl → Prop} {X : XC} (h : K (.d .non) [.cel .par (.obj .Climate [("kinds", .tup (kl (pl ks)))]), .dat (.lst (kl ks))]) : Y G_Climate_init [.cel .par (.obj .Climate []), .dat (.lst (kl ks))] K X := by
  unfold G_Climate_init B_Climate_init
  walk_at "ys"
  refine y_check_kinds ks hg hl ?_
  walk_at "ys"
  refine y_plain ks hg hl ?_
  walk_at "ys"
  exact ⟨by omega, h⟩
/-- the longest spell that climbs to a run -/
def wl (ks : List (Int × Int)) (r : Int) : Int := OW.maxL 0 ((ks.filter fun k => decide (k.2 ≤ r)).map (·.1))
theorem fm_kl {ms : List (Int × Int)} {r : Int} : (kl ms).filterMap (fun x => match x with | .tup [.int w, .int g] => if g ≤ r then some (.int w) else none | _ => none) = ((ms.filter fun k => decide (k.2 ≤ r)).map (·.1)).map D.int := by
  induction ms with
  | nil => rfl
  | cons k ms ih =>
    obtain ⟨w, g⟩ := k
    have e : kl ((w, g) :: ms) = kd (w, g) :: kl ms := rfl
    rw [e, List.filterMap_cons, ih]
    by_cases c : g ≤ r
    · simp [kd, c]
    · simp [kd, c]
theorem gmax_ints {ns : List Int} {d : Int} : gMaxD d [.lst (ns.map D.int)] = some (.int (OW.maxL d ns)) := by
  unfold gMaxD lints
  simp only [D.litems, Option.bind_some, D.ints_map, Option.map_some]
theorem y_longest (ks : List (Int × Int)) (r : Int) {K : Rv → List Sl → Prop} {X : XC} (h : K (.d (.int (wl (pl ks) r))) [.dat (Ci ks), .dat (.int r)]) : Y G_Climate_longest [.dat (Ci ks), .dat (.int r)] K X := by
  unfold G_Climate_longest B_Climate_longest
  walk_at "ys"
  refine Y_lcGo (f := fun x => match x with | .tup [.int w, .int g] => if g ≤ r then some (.int w) else none | _ => none) (ρ0 := [.dat (Ci ks), .dat (.int r), .un, .un]) (P := fun x => ∃ k ∈ pl ks, x = kd k) (fun x acc ⟨k, hk, e⟩ hl => ?_) _ _ (fun x hx => ?_) ?_ ?_
  · subst e
    unfold kd
    walk_at "ys"
    split
    · walk_at "ys"
    · walk_at "ys"
  · obtain ⟨k, hk, e⟩ := List.mem_map.mp hx
    exact ⟨k, hk, e.symm⟩
  · have := pl_len ks
    rw [kl_len]
    simp
    omega
  · rw [List.nil_append, fm_kl]
    walk_at "ys"
    exact ⟨_, gmax_ints, h⟩

theorem maxL0 : ∀ {ns : List Int}, (∀ n ∈ ns, 0 ≤ n) → OW.maxL 0 ns = ns.foldl max 0
  | [], _ => rfl
  | n :: ns, h => by
    show ns.foldl max n = ns.foldl max (max 0 n)
    have := h n List.mem_cons_self
    rw [show max 0 n = n by omega]
theorem wl_snoc {ks : List (Int × Int)} {k : Int × Int} {r : Int} (h : ∀ k ∈ ks, 0 ≤ k.1) (hk : 0 ≤ k.1) : wl (ks ++ [k]) r = if k.2 ≤ r then max (wl ks r) k.1 else wl ks r := by
  have p : ∀ n ∈ (ks.filter fun k => decide (k.2 ≤ r)).map (·.1), 0 ≤ n := fun n hn => by
    obtain ⟨q, hq, rfl⟩ := List.mem_map.mp hn
    exact h q (List.mem_filter.mp hq).1
  unfold wl
  rw [List.filter_append, List.map_append]
  by_cases c : k.2 ≤ r
  · rw [if_pos c]
    have e : [k].filter (fun k => decide (k.2 ≤ r)) = [k] := by simp [c]
    rw [e, maxL0 (by intro n hn; rcases List.mem_append.mp hn with q | q; exact p n q; simp at q; omega), maxL0 p, List.foldl_append]
    rfl
  · rw [if_neg c]
    have e : [k].filter (fun k => decide (k.2 ≤ r)) = [] := by simp [c]
    rw [e, List.map_nil, List.append_nil]
theorem wl_nn {ks : List (Int × Int)} {r : Int} (h : ∀ k ∈ ks, 0 ≤ k.1) : 0 ≤ wl ks r := by
  have p : ∀ n ∈ (ks.filter fun k => decide (k.2 ≤ r)).map (·.1), 0 ≤ n := fun n hn => by
    obtain ⟨q, hq, rfl⟩ := List.mem_map.mp hn
    exact h q (List.mem_filter.mp hq).1
  unfold wl
  rw [maxL0 p]
  exact (foldl_max' _ 0).1

/-- the longest spell of the plain list is that of the kinds -/
theorem wl_le {ks : List (Int × Int)} {r : Int} {k : Int × Int} (hk : k ∈ ks) (h : k.2 ≤ r) (hn : ∀ k ∈ ks, 0 ≤ k.1) : k.1 ≤ wl ks r := by
  unfold wl
  rw [maxL0 (fun n hn' => by
    obtain ⟨q, hq, rfl⟩ := List.mem_map.mp hn'
    exact hn q (List.mem_filter.mp hq).1)]
  exact (foldl_max' _ 0).2.1 _ (List.mem_map.mpr ⟨k, List.mem_filter.mpr ⟨hk, by simpa using h⟩, rfl⟩)
theorem wl_mem {ks : List (Int × Int)} {r : Int} (hn : ∀ k ∈ ks, 0 ≤ k.1) : wl ks r = 0 ∨ ∃ k ∈ ks, k.2 ≤ r ∧ k.1 = wl ks r := by
  have e := maxL0 (ns := (ks.filter fun k => decide (k.2 ≤ r)).map (·.1)) (fun n hn' => by
    obtain ⟨q, hq, rfl⟩ := List.mem_map.mp hn'
    exact hn q (List.mem_filter.mp hq).1)
  rcases (foldl_max' ((ks.filter fun k => decide (k.2 ≤ r)).map (·.1)) 0).2.2 with q | q
  · exact .inl (by unfold wl; rw [e, q])
  · rw [← e] at q
    obtain ⟨k, hk, eq⟩ := List.mem_map.mp q
    obtain ⟨h1, h2⟩ := List.mem_filter.mp hk
    exact .inr ⟨k, h1, by simpa using h2, eq⟩
theorem pl_sub {ks : List (Int × Int)} (hp : Pos2 ks) {k : Int × Int} (h : k ∈ pl ks) : k ∈ ks := by
  unfold pl at h
  obtain ⟨w, hw, rfl⟩ := List.mem_map.mp h
  obtain ⟨k, hk, e1, e2⟩ := keep_mem hp (List.mem_filter.mp hw).2
  obtain ⟨k1, k2⟩ := k
  simp only at e1 e2
  subst e1 e2
  exact hk
theorem pl_top {ks : List (Int × Int)} (hp : Pos2 ks) (hw : ∀ k ∈ ks, 1 ≤ k.1 ∧ k.1 ≤ 16) {k : Int × Int} (h : k ∈ ks) : ∃ q ∈ pl ks, k.1 ≤ q.1 ∧ q.2 ≤ k.2 := by
  -- climb as long as the least run stays
  have go : ∀ (n : Nat) (w : Int), (n : Int) = 17 - w → 1 ≤ w → 0 < lr ks w → ∃ q ∈ pl ks, w ≤ q.1 ∧ q.2 = lr ks w := by
    intro n
    induction n with
    | zero =>
      intro w e w1 h
      obtain ⟨k, hk, c, _⟩ := lr_mem hp h
      have := hw k hk
      omega
    | succ n ih =>
      intro w e w1 h
      by_cases c : lr ks w = lr ks (w + 1)
      · obtain ⟨q, hq, q1, q2⟩ := ih (w + 1) (by omega) (by omega) (by omega)
        exact ⟨q, hq, by omega, by omega⟩
      · refine ⟨(w, lr ks w), ?_, Int.le_refl _, rfl⟩
        unfold pl
        refine List.mem_map.mpr ⟨w, List.mem_filter.mpr ⟨upTo_mem.mpr ⟨w1, by omega⟩, ?_⟩, rfl⟩
        unfold keepW
        simp [h, c]
  have := hw k h
  have l := lr_le hp h (Int.le_refl k.1)
  obtain ⟨q, hq, q1, q2⟩ := go (17 - k.1).toNat k.1 (by omega) (by omega) l.1
  exact ⟨q, hq, q1, by omega⟩
theorem wl_pl {ks : List (Int × Int)} (hg : Gd 16 120 ks) (r : Int) : wl (pl ks) r = wl ks r := by
  have hn : ∀ k ∈ ks, 0 ≤ k.1 := fun k hk => by have := hg k hk; omega
  have hn2 : ∀ k ∈ pl ks, 0 ≤ k.1 := fun k hk => hn k (pl_sub hg.pos hk)
  have a1 : wl (pl ks) r ≤ wl ks r := by
    rcases wl_mem (r := r) hn2 with e | ⟨k, hk, k1, k2⟩
    · have := wl_nn (r := r) hn
      omega
    · have := wl_le (pl_sub hg.pos hk) k1 hn
      omega
  have a2 : wl ks r ≤ wl (pl ks) r := by
    rcases wl_mem (r := r) hn with e | ⟨k, hk, k1, k2⟩
    · have := wl_nn (r := r) hn2
      omega
    · obtain ⟨q, hq, q1, q2⟩ := pl_top hg.pos (fun k hk => ⟨(hg k hk).1, (hg k hk).2.1⟩) hk
      have := wl_le hq (r := r) (by omega) hn2
      omega
  omega
theorem wl_16 {ks : List (Int × Int)} (hg : Gd 16 120 ks) (r : Int) : 0 ≤ wl ks r ∧ wl ks r ≤ 16 := by
  have hn : ∀ k ∈ ks, 0 ≤ k.1 := fun k hk => by have := hg k hk; omega
  refine ⟨wl_nn hn, ?_⟩
  rcases wl_mem (r := r) hn with e | ⟨k, hk, k1, k2⟩
  · omega
  · have := hg k hk
    omega

theorem pl_gd {ks : List (Int × Int)} (hg : Gd 16 120 ks) : Gd 16 120 (pl ks) := fun k hk => hg k (pl_sub hg.pos hk)

theorem rngc {lo : Int} {n i : Nat} (h : i < n) : (rngD lo n).drop i = D.int (lo + i) :: (rngD lo n).drop (i + 1) := by
  have l : i < (rngD lo n).length := by rw [rng_len]; exact h
  rw [List.drop_eq_getElem_cons l]
  simp [rngD]
theorem rngc_end {lo : Int} {n i : Nat} (h : n ≤ i) : (rngD lo n).drop i = [] := List.drop_eq_nil_of_le (by rw [rng_len]; exact h)
theorem rngc_lt {lo : Int} {n i : Nat} {x : D} {r : List D} (e : x :: r = (rngD lo n).drop i) : i < n ∧ x = .int (lo + i) ∧ r = (rngD lo n).drop (i + 1) := by
  rcases Nat.lt_or_ge i n with q | q
  · rw [rngc q] at e
    cases e
    exact ⟨q, rfl, rfl⟩
  · rw [rngc_end q] at e
    cases e
theorem rngc_ge {lo : Int} {n i : Nat} (e : [] = (rngD lo n).drop i) : n ≤ i := by
  rcases Nat.lt_or_ge i n with q | q
  · rw [rngc q] at e
    cases e
  · exact q

/-- the signs that lengths tell, the first ones of the color of place i -/
def unl (i : Nat) : List Int → List Bool
  | [] => []
  | n :: r => List.replicate n.toNat (decide (i % 2 = 1)) ++ unl (i + 1) r
/-- the lengths of signs: bump the first -/
def bump : List Int → List Int | [] => [1] | n :: r => (n + 1) :: r
def lnA (d : Bool) : List Bool → List Int
  | [] => [0]
  | b :: bs => if b = d then bump (lnA d bs) else 0 :: bump (lnA b bs)
def lns (bs : List Bool) : List Int := if bs = [] then [] else lnA false bs
/-- signs that begin dry -/
def Dry (bs : List Bool) : Prop := bs.head? = some false
theorem Dry.len {bs : List Bool} (h : Dry bs) : 1 ≤ bs.length := by
  cases bs with
  | nil => cases h
  | cons b bs => simp
theorem Dry.ne {bs : List Bool} (h : Dry bs) : bs ≠ [] := fun e => by subst e; cases h
theorem Dry.app {a b : List Bool} (h : Dry a) : Dry (a ++ b) := by
  cases a with
  | nil => cases h
  | cons x a => exact h
theorem Dry.take {a : List Bool} {n : Nat} (h : Dry a) (hn : 1 ≤ n) : Dry (a.take n) := by
  cases a with
  | nil => cases h
  | cons x a =>
    cases n with
    | zero => omega
    | succ n => exact h
/-- a weather as data -/
abbrev We (bs : List Bool) : D := .obj .Weather [.tup ((lns bs).map .int)]
abbrev Ws (bs : List Bool) : D := .str (sg bs)
theorem ix_neg1 {α : Type} {l : List α} {a : α} : atI (l ++ [a]) (-1) = some a := by
  unfold atI ixN
  rw [if_neg (by omega), if_pos (by rw [List.length_append, List.length_singleton]; omega)]
  have e : ((-1 : Int) + ((l ++ [a]).length : Nat)).toNat = l.length := by rw [List.length_append, List.length_singleton]; omega
  rw [e]
  simp
theorem y_longestL (ks : List (Int × Int)) (r : Int) (hg : ∀ k ∈ ks, 0 ≤ k.1) {K : Rv → List Sl → Prop} (h : K (.d (.int (wl ks r))) [.dat (.lst (kl ks)), .dat (.int r)]) : Y G_l_longest [.dat (.lst (kl ks)), .dat (.int r)] K NX := by
  unfold G_l_longest B_l_longest
  walk_at "ys"
  refine Y_loop (I := fun q ρ => ∃ (dn rest : List (Int × Int)) (s : Sl), ks = dn ++ rest ∧ q = kl rest ∧ ρ = [.dat (.lst (kl ks)), .dat (.int r), .dat (.int (wl dn r)), s] ∧ canSet s = true)
    ⟨[], ks, .un, rfl, rfl, rfl, rfl⟩ (fun e q ρ => ?_) (fun ρ => ?_)
  · rintro ⟨dn, rest, s, ek, er, rfl, c⟩
    cases rest with
    | nil => cases er
    | cons k rest =>
      obtain ⟨w, g⟩ := k
      cases er
      have hd : ∀ k ∈ dn, 0 ≤ k.1 := fun k hk => hg k (by rw [ek]; exact List.mem_append_left _ hk)
      have sn := wl_snoc (r := r) (k := (w, g)) hd (hg (w, g) (by rw [ek]; simp))
      have done : ∀ v, v = wl (dn ++ [(w, g)]) r → ∃ (dn' rest' : List (Int × Int)) (s : Sl), ks = dn' ++ rest' ∧ kl rest = kl rest' ∧ [Sl.dat (.lst (kl ks)), .dat (.int r), .dat (.int v), .dat (.tup [.int w, .int g])] = [.dat (.lst (kl ks)), .dat (.int r), .dat (.int (wl dn' r)), s] ∧ canSet s = true := by
        rintro v rfl
        exact ⟨dn ++ [(w, g)], rest, _, by rw [ek]; simp, rfl, rfl, rfl⟩
      unfold kd
      walk_at "ys"
      refine ⟨c, ?_⟩
      rw [sn] at done
      simp only at done
      split
      · rename_i c1
        rw [if_pos c1] at done
        split
        · exact done _ (by omega)
        · exact done _ (by omega)
      · rename_i c1
        rw [if_neg c1] at done
        exact done _ rfl
  · rintro ⟨dn, rest, s, ek, er, rfl, c⟩
    cases rest with
    | cons => cases er
    | nil =>
      rw [List.append_nil] at ek
      subst ek
      walk_at "ys"
      exact h

/-- a loop's name is set, then the body -/
theorem Y_tgN {i : Nat} {x : D} {ρ : List Sl} {P : List Sl → Prop} {s : Sl} (h : ρ[i]? = some s) (c : canSet s = true) (p : P (ρ.set i (.dat x))) : Y (asgT (.n i) x) ρ (fun f ρ1 => f = .nx ∧ P ρ1) NX := by
  rw [Y_asgN, Y_setD]
  exact ⟨s, h, c, rfl, p⟩

/-- the climate's state after an hour: the stretch, what is left of the spell -/
def st1 (f : Int → Int) (p : Int × Int) (c : Bool) : Option (Int × Int) :=
  if c = false then some (p.1 + 1, p.2) else if 0 < (if 0 < p.1 then f p.1 else p.2) then some (0, (if 0 < p.1 then f p.1 else p.2) - 1) else none
def stS (f : Int → Int) : Int × Int → List Bool → Option (Int × Int)
  | p, [] => some p
  | p, c :: r => (st1 f p c).bind fun q => stS f q r
theorem stS_app {f : Int → Int} : ∀ (xs ys : List Bool) (p : Int × Int), stS f p (xs ++ ys) = (stS f p xs).bind fun q => stS f q ys
  | [], ys, p => rfl
  | c :: r, ys, p => by
    show (st1 f p c).bind _ = ((st1 f p c).bind _).bind _
    cases st1 f p c with
    | none => rfl
    | some q => exact stS_app r ys q
theorem st1_damp {f : Int → Int} {s l v : Int} (hv : v = if 0 < s then f s else l) (h : 0 < v) : st1 f (s, l) true = some (0, v - 1) := by
  unfold st1
  rw [if_neg (by decide)]
  simp only
  rw [← hv, if_pos h]
theorem stS_snoc {f : Int → Int} {p q : Int × Int} {bs : List Bool} (h : stS f p bs = some q) (c : Bool) : stS f p (bs ++ [c]) = st1 f q c := by
  rw [stS_app, h]
  show (st1 f q c).bind (fun q => some q) = _
  cases st1 f q c <;> rfl

/-- drawn signs of a climate -/
def Mem (f : Int → Int) (bs : List Bool) : Prop := Dry bs ∧ ∃ q, stS f (0, 0) bs = some q
theorem y_signs_of (x y z : Int) (ks : List (Int × Int)) (n : Int) (hg : ∀ k ∈ ks, 0 ≤ k.1) (n1 : 1 ≤ n) (n2 : n ≤ 200) {K : Rv → List Sl → Prop} (h : ∀ (bs : List Bool) (x' y' z' : Int), Mem (wl ks) bs → (bs.length : Int) = n → K (.d (Ws bs)) [Po x' y' z', .dat (.lst (kl ks)), .dat (.int n)]) : Y G_l_signs_of [Po x y z, .dat (.lst (kl ks)), .dat (.int n)] K NX := by
  unfold G_l_signs_of B_l_signs_of
  rw [Y_run0]
  show Y _ [Po x y z, .dat (.lst (kl ks)), .dat (.int n), .un, .un, .un, .un, .un, .un, .un] _ _
  refine Y_cut (J := fun ρ => ρ = [Po x y z, .dat (.lst (kl ks)), .dat (.int n), .dat (Ws [false]), .un, .un, .un, .un, .un, .un]) ?_ ?_
  · walk_at "ys"
  rintro _ rfl
  refine Y_cut (J := fun ρ => ∃ i x y z : Int, ρ = [Po x y z, .dat (.lst (kl ks)), .dat (.int n), .dat (Ws [false]), .dat (.int i), .un, .un, .un, .un, .un]) ?_ ?_
  · walk_at "ys"
    refine y_take _ _ _ _ (by omega) (by omega) fun d x1 y1 z1 d1 d2 => ?_
    walk_at "ys"
    exact ⟨_, _, _, _, rfl⟩
  rintro _ ⟨st, x, y, z, rfl⟩
  refine Y_cut (J := fun ρ => ρ = [Po x y z, .dat (.lst (kl ks)), .dat (.int n), .dat (Ws [false]), .dat (.int st), .dat (.int 1), .un, .un, .un, .un]) ?_ ?_
  · walk_at "ys"
  rintro _ rfl
  refine Y_cut (J := fun ρ => ρ = [Po x y z, .dat (.lst (kl ks)), .dat (.int n), .dat (Ws [false]), .dat (.int st), .dat (.int 1), .dat (.int 0), .un, .un, .un]) ?_ ?_
  · walk_at "ys"
  rintro _ rfl
  refine Y_cut (J := fun ρ => ∃ (bs : List Bool) (x y z s l : Int) (s7 s8 s9 : Sl), Mem (wl ks) bs ∧ (bs.length : Int) = n ∧ ρ = [Po x y z, .dat (.lst (kl ks)), .dat (.int n), .dat (Ws bs), .dat (.int st), .dat (.int s), .dat (.int l), s7, s8, s9]) ?_ ?_
  · walk_at "ys"
    refine ⟨by omega, ?_⟩
    refine Y_loop (I := fun r ρ => ∃ (i : Nat) (bs : List Bool) (x y z s l : Int) (s7 s8 s9 : Sl), r = (rngD 0 (n - 1).toNat).drop i ∧ bs.length = i + 1 ∧ i ≤ (n - 1).toNat ∧ Dry bs ∧ stS (wl ks) (0, 0) bs = some (s, l) ∧ canSet s7 = true ∧ canSet s8 = true ∧ canSet s9 = true ∧ ρ = [Po x y z, .dat (.lst (kl ks)), .dat (.int n), .dat (Ws bs), .dat (.int st), .dat (.int s), .dat (.int l), s7, s8, s9])
      ⟨0, [false], _, _, _, _, _, _, _, _, rfl, rfl, Nat.zero_le _, rfl, rfl, rfl, rfl, rfl, rfl⟩ (fun q r ρ => ?_) (fun ρ => ?_)
    · rintro ⟨i, bs, x, y, z, s, l, s7, s8, s9, er, hl, il, hd, hs, c7, c8, c9, rfl⟩
      obtain ⟨hi, rfl, rfl⟩ := rngc_lt er
      refine Y_tgN rfl c7 ?_
      refine Y_cut (J := fun ρ => ρ = [Po x y z, .dat (.lst (kl ks)), .dat (.int n), .dat (Ws bs), .dat (.int st), .dat (.int s), .dat (.int l), .dat (.int (0 + (i : Int))), .dat (.int l), s9]) ?_ ?_
      · walk_at "ys"
        exact c8
      rintro _ rfl
      refine Y_cut (J := fun ρ => ∃ v, v = (if 0 < s then wl ks s else l) ∧ ρ = [Po x y z, .dat (.lst (kl ks)), .dat (.int n), .dat (Ws bs), .dat (.int st), .dat (.int s), .dat (.int l), .dat (.int (0 + (i : Int))), .dat (.int v), s9]) ?_ ?_
      · walk_at "ys"
        split
        · rename_i c
          refine y_longestL ks s hg ?_
          walk_at "ys"
          exact ⟨wl ks s, (if_pos c).symm, rfl⟩
        · rename_i c
          exact ⟨l, by first | rfl | exact (if_neg c).symm, rfl⟩
      rintro _ ⟨v, ev, rfl⟩
      refine Y_cut (J := fun ρ => ρ = [Po x y z, .dat (.lst (kl ks)), .dat (.int n), .dat (Ws bs), .dat (.int st), .dat (.int s), .dat (.int l), .dat (.int (0 + (i : Int))), .dat (.int v), .dat (.bl false)]) ?_ ?_
      · walk_at "ys"
        exact c9
      rintro _ rfl
      refine Y_cut (J := fun ρ => ∃ (d : Bool) (x y z : Int), (d = true → 0 < v) ∧ ρ = [Po x y z, .dat (.lst (kl ks)), .dat (.int n), .dat (Ws bs), .dat (.int st), .dat (.int s), .dat (.int l), .dat (.int (0 + (i : Int))), .dat (.int v), .dat (.bl d)]) ?_ ?_
      · by_cases c : 0 < v
        · have cc : ∀ b : Bool, b = true → 0 < v := fun _ _ => c
          walk_at "ys"
          rw [if_pos c]
          repeat' split
          all_goals first
            | (refine y_take _ _ _ _ (by omega) (by omega) fun d x1 y1 z1 d1 d2 => ?_; walk_at "ys"; exact ⟨_, _, _, _, cc _, rfl⟩)
            | exact ⟨_, _, _, _, cc _, rfl⟩
        · walk_at "ys"
          simp only [if_neg c]
          exact ⟨false, _, _, _, fun h => (by cases h), rfl⟩
      rintro _ ⟨d, x, y, z, hd2, rfl⟩
      cases d with
      | true =>
        have damp : stS (wl ks) (0, 0) (bs ++ [true]) = some (0, v - 1) := (stS_snoc hs true).trans (st1_damp ev (hd2 rfl))
        walk_at "ys"
        refine ⟨by omega, ?_⟩
        exact ⟨i + 1, _, _, _, _, _, _, _, _, _, rfl, by rw [List.length_append]; simp; omega, hi, hd.app, damp, rfl, rfl, rfl, rfl⟩
      | false =>
        have dry : stS (wl ks) (0, 0) (bs ++ [false]) = some (s + 1, l) := stS_snoc hs false
        walk_at "ys"
        refine ⟨by omega, ?_⟩
        exact ⟨i + 1, _, _, _, _, _, _, _, _, _, rfl, by rw [List.length_append]; simp; omega, hi, hd.app, dry, rfl, rfl, rfl, rfl⟩
    · rintro ⟨i, bs, x, y, z, s, l, s7, s8, s9, er, hl, il, hd, hs, c7, c8, c9, rfl⟩
      have := rngc_ge er
      exact ⟨rfl, bs, x, y, z, s, l, _, _, _, ⟨hd, _, hs⟩, by omega, rfl⟩
  rintro _ ⟨bs, x, y, z, s, l, s7, s8, s9, hm, hl, rfl⟩
  walk_at "ys"
  exact h bs _ _ _ hm hl

theorem snoc_of {α : Type} {l : List α} (h : l ≠ []) : ∃ i x, l = i ++ [x] := by
  rcases List.eq_nil_or_concat l with e | ⟨i, n, e⟩
  · exact absurd e h
  · rw [List.concat_eq_append] at e
    exact ⟨i, n, e⟩

theorem fmax_mem : ∀ (ns : List Int) (m : Int), ns.foldl max m = m ∨ ns.foldl max m ∈ ns := fun ns m => (foldl_max' ns m).2.2

def ndK (ks : List (Int × Int)) : Int := OW.maxL 0 ((pl ks).map (·.2))
theorem y_need (ks : List (Int × Int)) {K : Rv → List Sl → Prop} {X : XC} (h : K (.d (.int (ndK ks))) [.dat (Ci ks)]) : Y G_Climate_need [.dat (Ci ks)] K X := by
  unfold G_Climate_need B_Climate_need
  walk_at "ys"
  refine Y_lcGo (f := fun x => match x with | .tup [.int w, .int g] => some (.int g) | _ => none) (ρ0 := [.dat (Ci ks), .un, .un]) (P := fun x => ∃ k ∈ pl ks, x = kd k) (fun x acc ⟨k, hk, e⟩ hl => ?_) _ _ (fun x hx => ?_) ?_ ?_
  · subst e
    unfold kd
    walk_at "ys"
  · obtain ⟨k, hk, e⟩ := List.mem_map.mp hx
    exact ⟨k, hk, e.symm⟩
  · have := pl_len ks
    rw [kl_len]
    simp
    omega
  · have e : ∀ ms : List (Int × Int), (kl ms).filterMap (fun x => match x with | .tup [.int w, .int g] => some (.int g) | _ => none) = (ms.map (·.2)).map D.int := by
      intro ms
      induction ms with
      | nil => rfl
      | cons k ms ih =>
        exact congrArg (D.int k.2 :: ·) ih
    rw [List.nil_append, e]
    walk_at "ys"
    exact ⟨_, gmax_ints, h⟩
theorem ndK_ge {ks : List (Int × Int)} (hg : Gd 16 120 ks) {k : Int × Int} (hk : k ∈ pl ks) : k.2 ≤ ndK ks := by
  have hp := pl_gd hg
  unfold ndK
  rw [maxL0 fun n hn => by
    obtain ⟨q, hq, rfl⟩ := List.mem_map.mp hn
    have := hp q hq
    omega]
  exact (foldl_max' _ 0).2.1 _ (List.mem_map.mpr ⟨k, hk, rfl⟩)
theorem ndK_bd {ks : List (Int × Int)} (hg : Gd 16 120 ks) : 0 ≤ ndK ks ∧ ndK ks ≤ 120 := by
  have hp := pl_gd hg
  unfold ndK
  rw [maxL0 fun n hn => by
    obtain ⟨q, hq, rfl⟩ := List.mem_map.mp hn
    have := hp q hq
    omega]
  refine ⟨(foldl_max' _ 0).1, ?_⟩
  rcases fmax_mem ((pl ks).map (·.2)) 0 with e | e
  · omega
  · obtain ⟨q, hq, e⟩ := List.mem_map.mp e
    have := hp q hq
    omega

theorem upTo_succ (n : Nat) : upTo (n + 1) = upTo n ++ [(n : Int) + 1] := by
  unfold upTo
  rw [List.range_succ, List.map_append]
  rfl

theorem y_least_runL (ks : List (Int × Int)) (w : Int) {K : Rv → List Sl → Prop} (h : K (.d (.int (lr ks w))) [.dat (.lst (kl ks)), .dat (.int w)]) : Y G_l_least_run [.dat (.lst (kl ks)), .dat (.int w)] K NX := by
  unfold G_l_least_run B_l_least_run
  walk_at "ys"
  refine Y_loop (I := fun r ρ => ∃ (rest : List (Int × Int)) (m : Int) (s3 : Sl), r = kl rest ∧ lr ks w = rest.foldl (fun best k => if k.1 ≥ w ∧ (best = 0 ∨ k.2 < best) then k.2 else best) m ∧ canSet s3 = true ∧ ρ = [.dat (.lst (kl ks)), .dat (.int w), .dat (.int m), s3])
    ⟨ks, 0, _, rfl, rfl, rfl, rfl⟩ (fun e r ρ => ?_) (fun ρ => ?_)
  · rintro ⟨rest, m, s3, er, em, c3, rfl⟩
    cases rest with
    | nil => cases er
    | cons k rest =>
      obtain ⟨v, g⟩ := k
      cases er
      rw [List.foldl_cons] at em
      unfold kd
      walk_at "ys"
      refine ⟨c3, ?_⟩
      by_cases c1 : v ≥ w
      · by_cases c2 : m = 0 ∨ g < m
        · rw [if_pos ⟨c1, c2⟩] at em
          rw [if_pos c1]
          rcases Classical.em (m = 0) with c4 | c4
          · rw [if_pos c4]
            exact ⟨rest, g, _, rfl, em, rfl, rfl⟩
          · rw [if_neg c4, if_pos (by omega)]
            exact ⟨rest, g, _, rfl, em, rfl, rfl⟩
        · rw [if_neg fun z => c2 z.2] at em
          rw [if_pos c1, if_neg (by omega), if_neg (by omega)]
          exact ⟨rest, m, _, rfl, em, rfl, rfl⟩
      · rw [if_neg fun z => c1 z.1] at em
        rw [if_neg c1]
        exact ⟨rest, m, _, rfl, em, rfl, rfl⟩
  · rintro ⟨rest, m, s3, er, em, c3, rfl⟩
    cases rest with
    | cons => cases er
    | nil =>
      walk_at "ys"
      rw [em] at h
      exact h
def plI (ks : List (Int × Int)) (i : Nat) : List (Int × Int) := ((upTo i).filter (keepW ks)).map fun w => (w, lr ks w)
theorem plI_succ (ks : List (Int × Int)) (i : Nat) : plI ks (i + 1) = plI ks i ++ (if keepW ks ((i : Int) + 1) = true then [((i : Int) + 1, lr ks ((i : Int) + 1))] else []) := by
  unfold plI
  rw [upTo_succ, List.filter_append, List.map_append]
  congr 1
  rw [List.filter_cons]
  cases keepW ks ((i : Int) + 1) <;> rfl
theorem plI_len (ks : List (Int × Int)) (i : Nat) : (plI ks i).length ≤ i := by
  unfold plI
  rw [List.length_map]
  refine Nat.le_trans (List.length_filter_le _ _) ?_
  simp [upTo]
theorem y_plainL (ks : List (Int × Int)) {K : Rv → List Sl → Prop} (h : K (.c (.lst (kl (pl ks)))) [.dat (.lst (kl ks))]) : Y G_l_plain [.dat (.lst (kl ks))] K NX := by
  unfold G_l_plain B_l_plain
  walk_at "ys"
  refine ⟨by omega, ?_⟩
  refine Y_loop (I := fun r ρ => ∃ (i : Nat) (s2 s3 : Sl), r = (rngD 1 (17 - 1 : Int).toNat).drop i ∧ i ≤ 16 ∧ canSet s2 = true ∧ canSet s3 = true ∧ ρ = [.dat (.lst (kl ks)), .cel .own (.lst (kl (plI ks i))), s2, s3])
    ⟨0, _, _, rfl, by omega, rfl, rfl, rfl⟩ (fun q r ρ => ?_) (fun ρ => ?_)
  · rintro ⟨i, s2, s3, er, il, c2, c3, rfl⟩
    obtain ⟨hi, rfl, rfl⟩ := rngc_lt er
    have hi : i < 16 := hi
    have pn := plI_len ks i
    refine Y_tgN rfl c2 ?_
    walk_at "ys"
    refine y_least_runL ks _ ?_
    walk_at "ys"
    refine ⟨c3, ?_⟩
    have ps := plI_succ ks i
    have eq : 1 + (i : Int) = (i : Int) + 1 := by omega
    rw [eq]
    unfold keepW at ps
    by_cases c1 : 0 < lr ks ((i : Int) + 1)
    · rw [if_pos c1]
      refine y_least_runL ks _ ?_
      walk_at "ys"
      by_cases c4 : lr ks ((i : Int) + 1) = lr ks ((i : Int) + 1 + 1)
      · rw [if_neg (by simpa using c4)]
        rw [decide_eq_true c1, decide_eq_false (by simpa using c4)] at ps
        rw [if_neg (by decide), List.append_nil] at ps
        rw [← ps]
        exact ⟨i + 1, _, _, rfl, by omega, rfl, rfl, rfl⟩
      · rw [if_pos (by simpa using c4)]
        rw [decide_eq_true c1, decide_eq_true c4] at ps
        rw [if_pos (by decide)] at ps
        rw [kl_len]
        refine ⟨by omega, ?_⟩
        rw [kl_snoc, ← ps]
        exact ⟨i + 1, _, _, rfl, by omega, rfl, rfl, rfl⟩
    · rw [if_neg c1]
      rw [decide_eq_false c1] at ps
      rw [Bool.false_and, if_neg (by decide), List.append_nil] at ps
      rw [← ps]
      exact ⟨i + 1, _, _, rfl, by omega, rfl, rfl, rfl⟩
  · rintro ⟨i, s2, s3, er, il, c2, c3, rfl⟩
    have : i = 16 := by
      have h1 := rngc_ge er
      have : (17 - 1 : Int).toNat = 16 := rfl
      omega
    subst this
    walk_at "ys"
    exact h

theorem pl_asc (ks : List (Int × Int)) : (pl ks).Pairwise fun a b => a.1 < b.1 := by
  unfold pl
  rw [List.pairwise_map]
  exact (upTo_rise 16).filter _
theorem pl_kept {ks : List (Int × Int)} {q : Int × Int} (h : q ∈ pl ks) : q.2 = lr ks q.1 ∧ 0 < lr ks q.1 := by
  unfold pl at h
  obtain ⟨w, hw, rfl⟩ := List.mem_map.mp h
  have hk := (List.mem_filter.mp hw).2
  unfold keepW at hk
  rw [Bool.and_eq_true] at hk
  exact ⟨rfl, of_decide_eq_true hk.1⟩
theorem pl_rise (ks : List (Int × Int)) (hg : Gd 16 120 ks) {i : List (Int × Int)} {k : Int × Int} (e : pl ks = i ++ [k]) : ∀ q ∈ pl ks, q.2 ≤ k.2 := fun q hq => by
  have hk := pl_kept (show k ∈ pl ks by rw [e]; simp)
  have hq2 := pl_kept hq
  rw [e] at hq
  rcases List.mem_append.mp hq with m | m
  · have pa := pl_asc ks
    rw [e, List.pairwise_append] at pa
    have lt := pa.2.2 q m k (by simp)
    rcases lr_mono hg.pos (v := q.1) (w := k.1) (by omega) with z | z
    · omega
    · omega
  · have : q = k := by simpa using m
    rw [this]
    exact Int.le_refl _
theorem y_lneed (ks : List (Int × Int)) (hg : Gd 16 120 ks) {K : Rv → List Sl → Prop} (h : K (.d (.int (ndK ks))) [.dat (.lst (kl ks))]) : Y G_l_need [.dat (.lst (kl ks))] K NX := by
  have hp := pl_gd hg
  unfold G_l_need B_l_need
  walk_at "ys"
  refine y_plainL ks ?_
  walk_at "ys"
  rw [kl_len]
  split
  · rename_i c
    have e : pl ks = [] := List.length_eq_zero_iff.mp (by omega)
    have z : ndK ks = 0 := by unfold ndK; rw [e]; rfl
    rw [z] at h
    exact h
  · rename_i c
    obtain ⟨i, k, e⟩ := snoc_of (l := pl ks) (fun z => c (by rw [z]; rfl))
    have hm := pl_rise ks hg e
    have z : ndK ks = k.2 := by
      have h1 := ndK_ge hg (show k ∈ pl ks by rw [e]; simp)
      unfold ndK at h1 ⊢
      rw [maxL0 fun n hn => by obtain ⟨q, hq, rfl⟩ := List.mem_map.mp hn; have := hp q hq; omega] at h1 ⊢
      rcases fmax_mem ((pl ks).map (·.2)) 0 with q | q
      · have := hp k (by rw [e]; simp)
        omega
      · obtain ⟨r, hr, er⟩ := List.mem_map.mp q
        have := hm r hr
        omega
    rw [z] at h
    obtain ⟨w, g⟩ := k
    refine ⟨.tup [.int w, .int g], by rw [e, ← kl_snoc]; exact ix_neg1, ?_⟩
    walk_at "ys"
    exact h

theorem gAny_b (xs : List Bool) : gAny [.lst (xs.map D.bl)] = some (.bl (xs.any id)) := by
  unfold gAny lbools
  simp only [D.litems, Option.bind_some, D.bools_map, Option.map_some]

theorem y_longW (ks : List (Int × Int)) (hg : Gd 16 120 ks) (r : Int) {K : Rv → List Sl → Prop} {X : XC} (h : K (.d (.int (wl ks r))) [.dat (Ci ks), .dat (.int r)]) : Y G_Climate_longest [.dat (Ci ks), .dat (.int r)] K X := by
  refine y_longest ks r ?_
  rw [wl_pl hg]
  exact h
theorem wl_need {ks : List (Int × Int)} (hg : Gd 16 120 ks) {r : Int} (r1 : 1 ≤ r) : wl ks (min r (max 1 (ndK ks))) = wl ks r := by
  rw [← wl_pl hg, ← wl_pl hg r]
  have hp := pl_gd hg
  have nn : ∀ k ∈ pl ks, 0 ≤ k.1 := fun k hk => by have := (hp k hk).1; omega
  have mono : wl (pl ks) (min r (max 1 (ndK ks))) ≤ wl (pl ks) r := by
    rcases wl_mem (r := min r (max 1 (ndK ks))) nn with e | ⟨k, hk, k1, k2⟩
    · rw [e]; exact wl_nn nn
    · rw [← k2]
      exact wl_le hk (by omega) nn
  rcases wl_mem (r := r) nn with e | ⟨k, hk, k1, k2⟩
  · have := wl_nn (r := min r (max 1 (ndK ks))) nn
    omega
  · have := ndK_ge hg hk
    have := wl_le (r := min r (max 1 (ndK ks))) hk (by omega) nn
    omega
theorem ne_dd : ("damp" : Str) ≠ "dry" := by decide +kernel
abbrev Sx (st : List Int) : D := .obj .StepSet [.tup (st.map .int)]
theorem inT_ints (x : Int) (xs : List Int) : dIn (.int x) (.tup (xs.map D.int)) = some (.bl (decide (x ∈ xs))) := by
  unfold dIn dInB
  simp only [D.items, Option.bind_some, D.ints_map, Option.map_some]
  congr 2
  by_cases h : x ∈ xs <;> simp [h]
theorem y_scont (st : List Int) (hl : st.length ≤ 1000) (s : Int) {K : Rv → List Sl → Prop} {X : XC} (h : K (.d (.bl (decide (s ∈ st)))) [.dat (Sx st), .dat (.int s)]) : Y G_StepSet_contains [.dat (Sx st), .dat (.int s)] K X := by
  unfold G_StepSet_contains B_StepSet_contains
  walk_at "ys"
  exact ⟨_, inT_ints s st, h⟩
theorem y_sfar (st : List Int) (F : Int) (hF : atI (st.map D.int) (-1) = some (.int F)) {K : Rv → List Sl → Prop} {X : XC} (h : K (.d (.int F)) [.dat (Sx st)]) : Y G_StepSet_farthest [.dat (Sx st)] K X := by
  unfold G_StepSet_farthest B_StepSet_farthest
  walk_at "ys"
  rw [hF]
  walk_at "ys"
  exact h
/-- the ages one hour later -/
def nag (st : List Int) (F : Int) (c : Bool) (as : List Int) : List Int := (if c = false ∧ (as.any fun a => decide (a + 1 ∈ st)) = true then [0] else []) ++ (as.map (· + 1)).filter fun a => decide (a < F)
def fInc (x : D) : Option D := match x with | .int i => some (.int (i + 1)) | _ => none
def fMem (st : List Int) (x : D) : Option D := match x with | .int i => some (.bl (decide (i ∈ st))) | _ => none
def fLt (F : Int) (x : D) : Option D := match x with | .int i => if i < F then some (.int i) else none | _ => none
theorem fInc_fm : ∀ as : List Int, (as.map D.int).filterMap fInc = (as.map (· + 1)).map D.int
  | [] => rfl
  | a :: as => congrArg (D.int (a + 1) :: ·) (fInc_fm as)
theorem fMem_fm (st : List Int) : ∀ as : List Int, (as.map D.int).filterMap (fMem st) = (as.map fun a => decide (a ∈ st)).map D.bl
  | [] => rfl
  | a :: as => congrArg (D.bl (decide (a ∈ st)) :: ·) (fMem_fm st as)
theorem fLt_fm (F : Int) : ∀ as : List Int, (as.map D.int).filterMap (fLt F) = (as.filter fun a => decide (a < F)).map D.int
  | [] => rfl
  | a :: as => by
    have ih := fLt_fm F as
    have e : fLt F (.int a) = if a < F then some (.int a) else none := rfl
    rw [List.map_cons, List.filterMap_cons, List.filter_cons, ih, e]
    by_cases c : a < F
    · rw [if_pos c, decide_eq_true c]; rfl
    · rw [if_neg c, decide_eq_false c]; rfl

/-- a sky: dry or not, and its number -/
def skq (q : Bool) : Str := if q = true then "dry" else "damp"
theorem skq_t : skq true = "dry" := rfl
theorem skq_f : skq false = "damp" := rfl
abbrev skN (q : Bool) (n : Int) : D := .tup [.str (skq q), .int n]
def mayO (f : Int → Int) (q : Bool) (n : Int) : Int := if q = true then f n else n
def nxO (f : Int → Int) (m : Int) (q : Bool) (n : Int) (c : Bool) : Int := if c = true then mayO f q n - 1 else if q = true then min (n + 1) m else 1
theorem Ws_f : Ws [false] = .str "." := rfl
theorem Ws_t : Ws [true] = .str "#" := rfl
theorem ne_sg : ("#" : Str) ≠ "." := by decide +kernel
theorem y_nskyO (ks : List (Int × Int)) (hg : Gd 16 120 ks) (q : Bool) (n : Int) (n0 : 0 ≤ n) (c : Bool) {K : Rv → List Sl → Prop} {X : XC}
    (h : ¬ (c = true ∧ mayO (wl ks) q n < 1) → K (.d (skN (!c) (nxO (wl ks) (max 1 (ndK ks)) q n c))) [.dat (Ci ks), .dat (skN q n), .dat (Ws [c])])
    (h2 : c = true ∧ mayO (wl ks) q n < 1 → K (.d .non) [.dat (Ci ks), .dat (skN q n), .dat (Ws [c])]) : Y G_f_next_sky [.dat (Ci ks), .dat (skN q n), .dat (Ws [c])] K X := by
  have nb := ndK_bd hg
  have nd := ne_dd
  cases c with
  | false =>
    have h := h (fun z => by simp at z)
    have e : nxO (wl ks) (max 1 (ndK ks)) q n false = if q = true then min (n + 1) (max 1 (ndK ks)) else 1 := rfl
    rw [e] at h
    have e2 : (!false) = true := rfl
    rw [e2] at h
    unfold skN at h ⊢
    rw [skq_t] at h
    cases q with
    | true =>
      rw [if_pos rfl] at h
      rw [skq_t] at h ⊢
      unfold G_f_next_sky B_f_next_sky
      walk_at "ys"
      refine y_need ks ?_
      walk_at "ys"
      exact h
    | false =>
      rw [if_neg (by simp)] at h
      rw [skq_f] at h ⊢
      unfold G_f_next_sky B_f_next_sky
      walk_at "ys"
      refine y_need ks ?_
      walk_at "ys"
      rw [show min ((0 : Int) + 1) (max 1 (ndK ks)) = 1 by omega]
      exact h
  | true =>
    have e : nxO (wl ks) (max 1 (ndK ks)) q n true = mayO (wl ks) q n - 1 := rfl
    rw [e] at h
    have e2 : (!true) = false := rfl
    rw [e2] at h
    unfold skN at h h2 ⊢
    rw [skq_f] at h
    cases q with
    | true =>
      have e3 : mayO (wl ks) true n = wl ks n := rfl
      rw [e3] at h h2
      rw [skq_t] at h h2 ⊢
      have w := wl_16 hg n
      unfold G_f_next_sky B_f_next_sky
      walk_at "ys"
      refine y_longW ks hg _ ?_
      walk_at "ys"
      by_cases z : wl ks n = 0
      · rw [if_pos z]
        exact h2 ⟨rfl, by omega⟩
      · rw [if_neg z]
        exact h fun y => by omega
    | false =>
      have e3 : mayO (wl ks) false n = n := rfl
      rw [e3] at h h2
      rw [skq_f] at h h2 ⊢
      unfold G_f_next_sky B_f_next_sky
      walk_at "ys"
      by_cases z : n = 0
      · rw [if_pos z]
        exact h2 ⟨rfl, by omega⟩
      · rw [if_neg z]
        exact h fun y => by omega
theorem y_lskyO (ks : List (Int × Int)) (hg : ∀ k ∈ ks, 0 ≤ k.1) (m : Int) (q : Bool) (n : Int) (c : Bool) {K : Rv → List Sl → Prop}
    (h : ¬ (c = true ∧ mayO (wl ks) q n < 1) → K (.d (skN (!c) (nxO (wl ks) m q n c))) [.dat (.lst (kl ks)), .dat (.int m), .dat (skN q n), .dat (Ws [c])])
    (h2 : c = true ∧ mayO (wl ks) q n < 1 → K (.d .non) [.dat (.lst (kl ks)), .dat (.int m), .dat (skN q n), .dat (Ws [c])]) : Y G_l_sky [.dat (.lst (kl ks)), .dat (.int m), .dat (skN q n), .dat (Ws [c])] K NX := by
  have nd := ne_dd
  have ns := ne_sg
  cases c with
  | false =>
    have h := h (fun z => by simp at z)
    have e : nxO (wl ks) m q n false = if q = true then min (n + 1) m else 1 := rfl
    rw [e] at h
    have e2 : (!false) = true := rfl
    rw [e2] at h
    unfold skN at h ⊢
    rw [skq_t] at h
    rw [Ws_f] at h ⊢
    cases q with
    | true =>
      rw [if_pos rfl] at h
      rw [skq_t] at h ⊢
      unfold G_l_sky B_l_sky
      walk_at "ys"
      exact h
    | false =>
      rw [if_neg (by simp)] at h
      rw [skq_f] at h ⊢
      unfold G_l_sky B_l_sky
      walk_at "ys"
      exact h
  | true =>
    have e : nxO (wl ks) m q n true = mayO (wl ks) q n - 1 := rfl
    rw [e] at h
    have e2 : (!true) = false := rfl
    rw [e2] at h
    unfold skN at h h2 ⊢
    rw [skq_f] at h
    rw [Ws_t] at h h2 ⊢
    cases q with
    | true =>
      have e3 : mayO (wl ks) true n = wl ks n := rfl
      rw [e3] at h h2
      rw [skq_t] at h h2 ⊢
      unfold G_l_sky B_l_sky
      walk_at "ys"
      refine y_longestL ks n hg ?_
      walk_at "ys"
      by_cases z : wl ks n < 1
      · rw [if_pos z]
        exact h2 ⟨rfl, z⟩
      · rw [if_neg z]
        exact h fun y => z y.2
    | false =>
      have e3 : mayO (wl ks) false n = n := rfl
      rw [e3] at h h2
      rw [skq_f] at h h2 ⊢
      unfold G_l_sky B_l_sky
      walk_at "ys"
      by_cases z : n < 1
      · rw [if_pos z]
        exact h2 ⟨rfl, z⟩
      · rw [if_neg z]
        exact h fun y => z y.2

/-- what can be the same as itself -/
def sok : Nat → D → Prop
  | 0, _ => False
  | _ + 1, .int _ => True
  | _ + 1, .bl _ => True
  | _ + 1, .str _ => True
  | _ + 1, .non => True
  | n + 1, .tup xs => xs.length < 100000 ∧ ∀ x ∈ xs, sok n x
  | n + 1, .lst xs => xs.length < 100000 ∧ ∀ x ∈ xs, sok n x
  | _ + 1, _ => False
theorem y_sameD : ∀ (n : Nat) (d : D), sok n d → ∀ {K : Rv → List Sl → Prop}, K (.d (.bl true)) [.dat d, .dat d] → Y (GR_l_same n) [.dat d, .dat d] K NX := by
  intro n
  induction n with
  | zero => intro d h; exact h.elim
  | succ n ih =>
    intro d hs K h
    cases d with
    | int i => unfold GR_l_same B_l_same; walk_at "ys"; exact h
    | bl b => unfold GR_l_same B_l_same; walk_at "ys"; rw [beq_self_eq_true]; exact h
    | str s => unfold GR_l_same B_l_same; walk_at "ys"; exact h
    | non => unfold GR_l_same B_l_same; walk_at "ys"; exact h
    | tup xs =>
      obtain ⟨hl, hx⟩ := hs
      unfold GR_l_same B_l_same
      walk_at "ys"
      refine ⟨by omega, ?_⟩
      refine Y_loop (I := fun r ρ => ∃ (i : Nat) (s : Sl), r = (rngD 0 (xs.length : Int).toNat).drop i ∧ i ≤ xs.length ∧ ρ = [.dat (.tup xs), .dat (.tup xs), s] ∧ canSet s = true) ⟨0, .un, rfl, Nat.zero_le _, rfl, rfl⟩ (fun x r ρ => ?_) (fun ρ => ?_)
      · rintro ⟨i, s, er, il, rfl, c⟩
        obtain ⟨hi, rfl, rfl⟩ := rngc_lt er
        have hi : i < xs.length := by omega
        have e : atI xs (0 + (i : Int)) = some xs[i] := by
          rw [Int.zero_add, at_lt i hi]
          exact List.getElem?_eq_getElem hi
        walk_at "ys"
        refine ⟨c, ?_⟩
        rw [e]
        walk_at "ys"
        refine ih _ (hx _ (List.getElem_mem hi)) ?_
        walk_at "ys"
        exact ⟨i + 1, _, rfl, hi, rfl, rfl⟩
      · rintro ⟨i, s, er, il, rfl, c⟩
        walk_at "ys"
        exact h
    | lst xs =>
      obtain ⟨hl, hx⟩ := hs
      unfold GR_l_same B_l_same
      walk_at "ys"
      refine ⟨by omega, ?_⟩
      refine Y_loop (I := fun r ρ => ∃ (i : Nat) (s : Sl), r = (rngD 0 (xs.length : Int).toNat).drop i ∧ i ≤ xs.length ∧ ρ = [.dat (.lst xs), .dat (.lst xs), s] ∧ canSet s = true) ⟨0, .un, rfl, Nat.zero_le _, rfl, rfl⟩ (fun x r ρ => ?_) (fun ρ => ?_)
      · rintro ⟨i, s, er, il, rfl, c⟩
        obtain ⟨hi, rfl, rfl⟩ := rngc_lt er
        have hi : i < xs.length := by omega
        have e : atI xs (0 + (i : Int)) = some xs[i] := by
          rw [Int.zero_add, at_lt i hi]
          exact List.getElem?_eq_getElem hi
        walk_at "ys"
        refine ⟨c, ?_⟩
        rw [e]
        walk_at "ys"
        refine ih _ (hx _ (List.getElem_mem hi)) ?_
        walk_at "ys"
        exact ⟨i + 1, _, rfl, hi, rfl, rfl⟩
      · rintro ⟨i, s, er, il, rfl, c⟩
        walk_at "ys"
        exact h
    | _ => exact hs.elim

abbrev asD (as : List Int) : D := .tup (as.map .int)
abbrev stN (q : Bool) (n : Int) (as : List Int) : D := .tup [skN q n, asD as]
theorem nag_len {st : List Int} {F : Int} {c : Bool} {as : List Int} : (nag st F c as).length ≤ as.length + 1 := by
  unfold nag
  rw [List.length_append]
  have := List.length_filter_le (fun a => decide (a < F)) (as.map (· + 1))
  rw [List.length_map] at this
  split
  · simp; omega
  · simp; omega
theorem y_nstO (ks : List (Int × Int)) (hg : Gd 16 120 ks) (st : List Int) (F : Int) (hF : atI (st.map D.int) (-1) = some (.int F)) (hl : st.length ≤ 1000) (q : Bool) (n : Int) (n0 : 0 ≤ n) (c : Bool) (as : List Int) (ha : as.length ≤ 1000) {K : Rv → List Sl → Prop} {X : XC}
    (h : ¬ (c = true ∧ mayO (wl ks) q n < 1) → K (.d (stN (!c) (nxO (wl ks) (max 1 (ndK ks)) q n c) (nag st F c as))) [.dat (Sx st), .dat (Ci ks), .dat (stN q n as), .dat (Ws [c])])
    (h2 : c = true ∧ mayO (wl ks) q n < 1 → K (.d .non) [.dat (Sx st), .dat (Ci ks), .dat (stN q n as), .dat (Ws [c])]) : Y G_f_next_stand [.dat (Sx st), .dat (Ci ks), .dat (stN q n as), .dat (Ws [c])] K X := by
  unfold G_f_next_stand B_f_next_stand
  rw [Y_run0]
  show Y _ [.dat (Sx st), .dat (Ci ks), .dat (stN q n as), .dat (Ws [c]), .un, .un, .un, .un, .un, .un] _ _
  refine Y_cut (J := fun ρ => ρ = [.dat (Sx st), .dat (Ci ks), .dat (stN q n as), .dat (Ws [c]), .dat (skN q n), .dat (asD as), .un, .un, .un, .un]) ?_ ?_
  · walk_at "ys"
  rintro _ rfl
  by_cases z : c = true ∧ mayO (wl ks) q n < 1
  · have h2 := h2 z
    walk_at "ys"
    refine y_nskyO ks hg q n n0 c (fun y => absurd z y) fun _ => ?_
    walk_at "ys"
    exact h2
  have h := h z
  clear h2
  refine Y_cut (J := fun ρ => ρ = [.dat (Sx st), .dat (Ci ks), .dat (stN q n as), .dat (Ws [c]), .dat (skN q n), .dat (asD as), .dat (skN (!c) (nxO (wl ks) (max 1 (ndK ks)) q n c)), .un, .un, .un]) ?_ ?_
  · walk_at "ys"
    refine y_nskyO ks hg q n n0 c (fun _ => ?_) fun y => absurd y z
    walk_at "ys"
  rintro _ rfl
  generalize nxO (wl ks) (max 1 (ndK ks)) q n c = n2 at h ⊢
  generalize (!c) = q2 at h ⊢
  unfold stN at h ⊢
  generalize e0 : D.tup [skN q n, asD as] = S0 at h ⊢
  generalize skN q n = S1
  refine Y_cut (J := fun ρ => ρ = [.dat (Sx st), .dat (Ci ks), .dat S0, .dat (Ws [c]), .dat S1, .dat (asD as), .dat (skN q2 n2), .un, .un, .un]) ?_ ?_
  · walk_at "ys"
  rintro _ rfl
  generalize eK : skN q2 n2 = S2 at h ⊢
  have pc : ∃ q n, S2 = .tup [.str q, .int n] := ⟨_, _, eK.symm⟩
  clear eK
  obtain ⟨q3, n3, rfl⟩ := pc
  refine Y_cut (J := fun ρ => ρ = [.dat (Sx st), .dat (Ci ks), .dat S0, .dat (Ws [c]), .dat S1, .dat (asD as), .dat (.tup [.str q3, .int n3]), .dat (.lst ((as.map (· + 1)).map .int)), .un, .un]) ?_ ?_
  · walk_at "ys"
    refine Y_lcGo (f := fInc) (ρ0 := [.dat (Sx st), .dat (Ci ks), .dat S0, .dat (Ws [c]), .dat S1, .dat (asD as), .dat (.tup [.str q3, .int n3]), .un, .un, .un]) (P := fun x => ∃ i : Int, x = .int i) (fun x acc ⟨i, e⟩ hl => ?_) _ _ (fun x hx => ?_) ?_ ?_
    · subst e
      walk_at "ys"
      rfl
    · obtain ⟨i, _, rfl⟩ := List.mem_map.mp hx
      exact ⟨i, rfl⟩
    · rw [List.length_map]
      simp
      omega
    · rw [List.nil_append, fInc_fm]
      walk_at "ys"
  rintro _ rfl
  have al : (as.map (· + 1)).length ≤ 1000 := by rw [List.length_map]; exact ha
  have hnw : (if c = false ∧ (as.any fun a => decide (a + 1 ∈ st)) = true then [(0 : Int)] else []) = if c = false ∧ ((as.map (· + 1)).any fun a => decide (a ∈ st)) = true then [0] else [] := by
    rw [List.any_map]
    rfl
  unfold nag at h
  rw [hnw] at h
  generalize as.map (· + 1) = bs at h al ⊢
  refine Y_cut (J := fun ρ => ρ = [.dat (Sx st), .dat (Ci ks), .dat S0, .dat (Ws [c]), .dat S1, .dat (asD as), .dat (.tup [.str q3, .int n3]), .dat (.lst (bs.map .int)), .dat (.lst ((if c = false ∧ (bs.any fun a => decide (a ∈ st)) = true then [(0 : Int)] else []).map .int)), .un]) ?_ ?_
  · cases c with
    | true =>
      rw [if_neg (by simp)]
      walk_at "ys"
    | false =>
      walk_at "ys"
      refine Y_lcGo (f := fMem st) (ρ0 := [.dat (Sx st), .dat (Ci ks), .dat S0, .dat (Ws [false]), .dat S1, .dat (asD as), .dat (.tup [.str q3, .int n3]), .dat (.lst (bs.map .int)), .un, .un]) (P := fun x => ∃ i : Int, x = .int i) (fun x acc ⟨i, e⟩ hl2 => ?_) _ _ (fun x hx => ?_) ?_ ?_
      · subst e
        walk_at "ys"
        refine y_scont st hl i ?_
        walk_at "ys"
        rfl
      · obtain ⟨i, _, rfl⟩ := List.mem_map.mp hx
        exact ⟨i, rfl⟩
      · rw [List.length_map]
        simp
        omega
      · rw [List.nil_append, fMem_fm]
        walk_at "ys"
        refine ⟨_, gAny_b _, ?_⟩
        rw [List.any_map]
        have e2 : (id ∘ fun a => decide (a ∈ st)) = fun a => decide (a ∈ st) := rfl
        rw [e2]
        cases bs.any fun a => decide (a ∈ st)
        · walk_at "ys"
        · walk_at "ys"
  rintro _ rfl
  generalize hw : (if c = false ∧ (bs.any fun a => decide (a ∈ st)) = true then [(0 : Int)] else []) = ws at h ⊢
  have wl1 : ws.length ≤ 1 := by
    rw [← hw]
    split <;> simp
  walk_at "ys"
  refine Y_lcGo (f := fLt F) (ρ0 := [.dat (Sx st), .dat (Ci ks), .dat S0, .dat (Ws [c]), .dat S1, .dat (asD as), .dat (.tup [.str q3, .int n3]), .dat (.lst (bs.map .int)), .dat (.lst (ws.map .int)), .un]) (P := fun x => ∃ i : Int, x = .int i) (fun x acc ⟨i, e⟩ hl2 => ?_) _ _ (fun x hx => ?_) ?_ ?_
  · subst e
    walk_at "ys"
    refine y_sfar st F hF ?_
    walk_at "ys"
    by_cases q : i < F
    · rw [if_pos q]
      exact if_pos q
    · rw [if_neg q]
      exact if_neg q
  · obtain ⟨i, _, rfl⟩ := List.mem_map.mp hx
    exact ⟨i, rfl⟩
  · rw [List.length_map]
    simp
    omega
  · rw [List.nil_append, fLt_fm]
    walk_at "ys"
    have fl : (bs.filter fun a => decide (a < F)).length ≤ bs.length := List.length_filter_le _ _
    unfold asD at h
    rw [List.map_append] at h
    exact ⟨by omega, h⟩
def fPl (st : List Int) (x : D) : Option D := match x with | .int i => if i + 1 ∈ st then some (.int i) else none | _ => none
theorem fPl_fm (st : List Int) : ∀ as : List Int, (as.map D.int).filterMap (fPl st) = (as.filter fun a => decide (a + 1 ∈ st)).map D.int
  | [] => rfl
  | a :: as => by
    have ih := fPl_fm st as
    have e : fPl st (.int a) = if a + 1 ∈ st then some (.int a) else none := rfl
    rw [List.map_cons, List.filterMap_cons, List.filter_cons, ih, e]
    by_cases c : a + 1 ∈ st
    · rw [if_pos c, decide_eq_true c]; rfl
    · rw [if_neg c, decide_eq_false c]; rfl
theorem flt_snoc (F a : Int) (dn : List Int) : (((dn ++ [a]).map (· + 1)).filter fun a => decide (a < F)) = ((dn.map (· + 1)).filter fun a => decide (a < F)) ++ (if a + 1 < F then [a + 1] else []) := by
  rw [List.map_append, List.filter_append]
  congr 1
  by_cases q : a + 1 < F
  · rw [if_pos q, List.map_singleton, List.filter_cons, decide_eq_true q, if_pos rfl, List.filter_nil]
  · rw [if_neg q, List.map_singleton, List.filter_cons, decide_eq_false q, if_neg (by simp), List.filter_nil]
theorem y_lagesO (st : List Int) (F : Int) (hF : atI (st.map D.int) (-1) = some (.int F)) (c : Bool) (as : List Int) (ha : as.length ≤ 1000) {K : Rv → List Sl → Prop}
    (h : K (.d (asD (nag st F c as))) [.dat (.lst (st.map .int)), .dat (asD as), .dat (Ws [c])]) : Y G_l_ages [.dat (.lst (st.map .int)), .dat (asD as), .dat (Ws [c])] K NX := by
  have ns := ne_sg
  unfold G_l_ages B_l_ages
  rw [Y_run0]
  show Y _ [.dat (.lst (st.map .int)), .dat (asD as), .dat (Ws [c]), .un, .un] _ _
  refine Y_cut (J := fun ρ => ρ = [.dat (.lst (st.map .int)), .dat (asD as), .dat (Ws [c]), .cel .own (.lst []), .un]) ?_ ?_
  · walk_at "ys"
  rintro _ rfl
  unfold nag at h
  refine Y_cut (J := fun ρ => ρ = [.dat (.lst (st.map .int)), .dat (asD as), .dat (Ws [c]), .cel .own (.lst ((if c = false ∧ (as.any fun a => decide (a + 1 ∈ st)) = true then [(0 : Int)] else []).map .int)), .un]) ?_ ?_
  · cases c with
    | true =>
      rw [if_neg (by simp), Ws_t]
      walk_at "ys"
    | false =>
      rw [Ws_f]
      walk_at "ys"
      refine Y_lcGo (f := fPl st) (ρ0 := [.dat (.lst (st.map .int)), .dat (asD as), .dat (.str "."), .cel .own (.lst []), .un]) (P := fun x => ∃ i : Int, x = .int i) (fun x acc ⟨i, e⟩ hl2 => ?_) _ _ (fun x hx => ?_) ?_ ?_
      · subst e
        walk_at "ys"
        by_cases q : i + 1 ∈ st
        · rw [if_pos q]
          exact if_pos q
        · rw [if_neg q]
          exact if_neg q
      · obtain ⟨i, _, rfl⟩ := List.mem_map.mp hx
        exact ⟨i, rfl⟩
      · rw [List.length_map]
        simp
        omega
      · rw [List.nil_append, fPl_fm]
        have al : (0 < (as.filter fun a => decide (a + 1 ∈ st)).length) ↔ (as.any fun a => decide (a + 1 ∈ st)) = true := by
          rw [List.length_pos_iff_exists_mem, List.any_eq_true]
          exact exists_congr fun a => List.mem_filter
        walk_at "ys"
        by_cases z : (as.any fun a => decide (a + 1 ∈ st)) = true
        · have := al.mpr z
          have p : (0 : Int) < ((as.filter fun a => decide (a + 1 ∈ st)).length : Int) := by omega
          rw [if_pos z, if_pos p]
          exact ⟨by omega, rfl⟩
        · have : ¬ (0 < (as.filter fun a => decide (a + 1 ∈ st)).length) := fun y => z (al.mp y)
          rw [if_neg z, if_neg (by omega)]
          rfl
  rintro _ rfl
  generalize hw : (if c = false ∧ (as.any fun a => decide (a + 1 ∈ st)) = true then [(0 : Int)] else []) = ws at h ⊢
  have wl1 : ws.length ≤ 1 := by
    rw [← hw]
    split <;> simp
  refine Y_cut (J := fun ρ => ∃ s4 : Sl, ρ = [.dat (.lst (st.map .int)), .dat (asD as), .dat (Ws [c]), .cel .own (.lst ((ws ++ (as.map (· + 1)).filter fun a => decide (a < F)).map .int)), s4]) ?_ ?_
  · walk_at "ys"
    refine Y_loop (I := fun r ρ => ∃ (dn rest : List Int) (s4 : Sl), r = rest.map D.int ∧ as = dn ++ rest ∧ canSet s4 = true ∧ ρ = [.dat (.lst (st.map .int)), .dat (asD as), .dat (Ws [c]), .cel .own (.lst ((ws ++ (dn.map (· + 1)).filter fun a => decide (a < F)).map .int)), s4])
      ⟨[], as, .un, rfl, rfl, rfl, by rw [List.map_nil, List.filter_nil, List.append_nil]⟩ (fun x r ρ => ?_) (fun ρ => ?_)
    · rintro ⟨dn, rest, s4, er, ea, c4, rfl⟩
      cases rest with
      | nil => cases er
      | cons a rest =>
        cases er
        have hl : dn.length + 1 ≤ as.length := by
          rw [ea, List.length_append, List.length_cons]
          omega
        have fl := List.length_filter_le (fun a => decide (a < F)) (dn.map (· + 1))
        rw [List.length_map] at fl
        refine Y_tgN rfl c4 ?_
        walk_at "ys"
        rw [hF]
        walk_at "ys"
        by_cases q : a + 1 < F
        · rw [if_pos q]
          refine ⟨by simp; omega, ?_⟩
          refine ⟨dn ++ [a], rest, .dat (.int a), rfl, by rw [ea]; simp, rfl, ?_⟩
          rw [flt_snoc, if_pos q]
          simp only [List.map_append, List.append_assoc, List.map_cons, List.map_nil]
        · rw [if_neg q]
          refine ⟨dn ++ [a], rest, .dat (.int a), rfl, by rw [ea]; simp, rfl, ?_⟩
          rw [flt_snoc, if_neg q, List.append_nil]
          try simp only [List.map_append]
    · rintro ⟨dn, rest, s4, er, ea, c4, rfl⟩
      cases rest with
      | cons => cases er
      | nil =>
        rw [List.append_nil] at ea
        subst ea
        exact ⟨rfl, _, rfl⟩
  rintro _ ⟨s4, rfl⟩
  walk_at "ys"
  exact h
theorem y_lstO (ks : List (Int × Int)) (hg : ∀ k ∈ ks, 0 ≤ k.1) (m : Int) (st : List Int) (F : Int) (hF : atI (st.map D.int) (-1) = some (.int F)) (q : Bool) (n : Int) (c : Bool) (as : List Int) (ha : as.length ≤ 1000) {K : Rv → List Sl → Prop}
    (h : ¬ (c = true ∧ mayO (wl ks) q n < 1) → K (.d (stN (!c) (nxO (wl ks) m q n c) (nag st F c as))) [.dat (.lst (st.map .int)), .dat (.lst (kl ks)), .dat (.int m), .dat (stN q n as), .dat (Ws [c])])
    (h2 : c = true ∧ mayO (wl ks) q n < 1 → K (.d .non) [.dat (.lst (st.map .int)), .dat (.lst (kl ks)), .dat (.int m), .dat (stN q n as), .dat (Ws [c])]) : Y G_l_stand [.dat (.lst (st.map .int)), .dat (.lst (kl ks)), .dat (.int m), .dat (stN q n as), .dat (Ws [c])] K NX := by
  unfold G_l_stand B_l_stand
  walk_at "ys"
  by_cases z : c = true ∧ mayO (wl ks) q n < 1
  · have h2 := h2 z
    refine y_lskyO ks hg m q n c (fun y => absurd z y) fun _ => ?_
    walk_at "ys"
    exact h2
  have h := h z
  clear h2
  refine y_lskyO ks hg m q n c (fun _ => ?_) fun y => absurd y z
  walk_at "ys"
  refine y_lagesO st F hF c as ha ?_
  walk_at "ys"
  exact h
theorem sok_st (q : Bool) (n : Int) (as : List Int) (ha : as.length ≤ 1000) (i : Nat) : sok (i + 3) (stN q n as) := ⟨by simp, fun x hx => by
    simp at hx
    rcases hx with rfl | rfl
    · exact ⟨by simp, fun y hy => by simp at hy; rcases hy with rfl | rfl <;> trivial⟩
    · exact ⟨by rw [List.length_map]; omega, fun y hy => by obtain ⟨k, _, rfl⟩ := List.mem_map.mp hy; trivial⟩⟩

theorem gMin_ints {ns : List Int} (h : ns ≠ []) : gMinL [.lst (ns.map D.int)] = some (.int (minI ns)) := by
  unfold gMinL lints
  simp only [D.litems, Option.bind_some, D.ints_map]
  rw [if_pos h]
theorem gMaxL_ints {ns : List Int} (h : ns ≠ []) : gMaxL [.lst (ns.map D.int)] = some (.int (maxI ns)) := by
  unfold gMaxL lints
  simp [D.litems, D.ints_map, h]

theorem eqT_ints (xs ys : List Int) : D.eq? (.tup (xs.map D.int)) (.tup (ys.map D.int)) = some (decide (xs = ys)) := by
  have e1 : D.py (.tup (xs.map D.int)) = some (.tuple (xs.map PyData.int)) := by rw [D.py, pys_ints]; rfl
  have e2 : D.py (.tup (ys.map D.int)) = some (.tuple (ys.map PyData.int)) := by rw [D.py, pys_ints]; rfl
  have sh : ∀ zs : List Int, SeqAt.shaped (.tuple (zs.map PyData.int)) = true := fun zs => by
    have h1 : PyData.canLay0 (.tuple (zs.map PyData.int)) = true := by rw [PyData.canLay0]; exact lay_ints zs
    have h2 : PyData.depth (.tuple (zs.map PyData.int)) = 1 := by rw [PyData.depth, dep_ints]
    unfold SeqAt.shaped
    rw [h1, h2]
    rfl
  have h1 := sh xs
  have h2 := sh ys
  have h3 : PyData.eqv (.tuple (xs.map PyData.int)) (.tuple (ys.map PyData.int)) = decide (xs = ys) := by rw [PyData.eqv]; exact eqv_ints xs ys
  show (match D.py (.tup (xs.map D.int)), D.py (.tup (ys.map D.int)) with
    | some x, some y => if SeqAt.shaped x && SeqAt.shaped y then some (PyData.eqv x y) else none
    | _, _ => none) = _
  rw [e1, e2]
  simp [h1, h2, h3]
def iv (lo : Int) (n : Nat) : List Int := (List.range n).map fun (o : Nat) => lo + (o : Int)
theorem iv_mem {lo p : Int} {n : Nat} : p ∈ iv lo n ↔ lo ≤ p ∧ p < lo + n := by
  unfold iv
  rw [List.mem_map]
  constructor
  · rintro ⟨i, hi, rfl⟩
    have := List.mem_range.mp hi
    omega
  · rintro ⟨h1, h2⟩
    exact ⟨(p - lo).toNat, List.mem_range.mpr (by omega), by omega⟩
theorem iv_rise {lo : Int} {n : Nat} : (iv lo n).Pairwise (· < ·) := by
  unfold iv
  rw [List.pairwise_map]
  exact List.Pairwise.imp (R := fun a b : Nat => a < b) (fun {a b} (h : a < b) => show lo + (a : Int) < lo + (b : Int) by omega) List.pairwise_lt_range
def stp (a b : Int) : List Int := iv a (b + 1 - a).toNat
theorem stp_mem {a b s : Int} : s ∈ stp a b ↔ a ≤ s ∧ s ≤ b := by
  unfold stp
  rw [iv_mem]
  omega
theorem stp_ne {a b : Int} (h : a < b) : stp a b ≠ [] := fun e => by
  have : a ∈ stp a b := stp_mem.mpr ⟨by omega, by omega⟩
  rw [e] at this
  simp at this
theorem stp_rise {a b : Int} : (stp a b).Pairwise (· < ·) := by
  unfold stp iv
  rw [List.pairwise_map]
  exact List.pairwise_lt_range.imp fun h => by omega
theorem srtI_self {st : List Int} (h : st.Pairwise (· < ·)) : srtI st = st := lt_uniq (srtI_asc st) h fun k => srtI_mem k st

/-- what a step set may be made of -/
def Okx (xs : List Int) : Prop := xs ≠ [] ∧ ∀ x ∈ xs, 1 ≤ x ∧ x ≤ 8
theorem y_sinitG (xs : List Int) (hl : xs.length ≤ 60) {K : Rv → List Sl → Prop} {X : XC}
    (h : Okx xs → K (.d .non) [.cel .par (.obj .StepSet [("steps", .tup ((srtI xs).map .int))]), .dat (.lst (xs.map .int))])
    (hx : ¬ Okx xs → X .BadSteps none [.cel .par (.obj .StepSet []), .dat (.lst (xs.map .int))]) : Y G_StepSet_init [.cel .par (.obj .StepSet []), .dat (.lst (xs.map .int))] K X := by
  unfold G_StepSet_init B_StepSet_init
  walk_at "ys"
  by_cases ne : xs = []
  · subst ne
    have hx := hx fun z => z.1 rfl
    rw [if_pos (by rfl)]
    exact ⟨by decide +kernel, by decide +kernel, by decide +kernel, hx⟩
  have ie : (!(xs.map D.int).isEmpty) = true := by
    cases xs with
    | nil => exact absurd rfl ne
    | cons => rfl
  rw [ie, if_neg (by simp)]
  have m1 := minI_spec ne
  have m2 := maxI_spec ne
  refine ⟨_, gMin_ints ne, ?_⟩
  walk_at "ys"
  by_cases c1 : minI xs < 1
  · rw [if_pos c1]
    have hx := hx fun z => by have := (z.2 _ m1.1).1; omega
    exact ⟨by decide +kernel, by decide +kernel, by decide +kernel, hx⟩
  rw [if_neg c1]
  refine ⟨_, gMaxL_ints ne, ?_⟩
  walk_at "ys"
  by_cases c2 : 8 < maxI xs
  · rw [if_pos c2]
    have hx := hx fun z => by have := (z.2 _ m2.1).2; omega
    exact ⟨by decide +kernel, by decide +kernel, by decide +kernel, hx⟩
  rw [if_neg c2]
  refine ⟨xs, D.ints_map xs, by omega, by omega, ?_⟩
  exact h ⟨ne, fun x hx => by have := m1.2 x hx; have := m2.2 x hx; omega⟩
abbrev Cst (st : List Int) : CC := .obj .StepSet [("steps", .tup (st.map .int))]
theorem y_seq (s t : List Int) {K : Rv → List Sl → Prop} {X : XC} (h : K (.d (.bl (decide (s = t)))) [.dat (Sx s), .dat (Sx t)]) : Y G_StepSet_eq [.dat (Sx s), .dat (Sx t)] K X := by
  unfold G_StepSet_eq B_StepSet_eq
  walk_at "ys"
  refine ⟨_, congrArg (Option.map D.bl) (eqT_ints s t), ?_⟩
  exact h
theorem y_sor (s t : List Int) (h1 : s.length + t.length ≤ 60) (ho : Okx (s ++ t)) {K : Rv → List Sl → Prop} {X : XC} (h : K (.c (Cst (srtI (s ++ t)))) [.dat (Sx s), .dat (Sx t)]) : Y G_StepSet_or [.dat (Sx s), .dat (Sx t)] K X := by
  unfold G_StepSet_or B_StepSet_or
  walk_at "ys"
  rw [← List.map_append]
  refine ⟨by rw [List.length_map, List.length_append]; omega, ?_⟩
  refine y_sinitG (s ++ t) (by rw [List.length_append]; omega) (fun _ => ?_) fun z => absurd ho z
  walk_at "ys"
  exact h
theorem y_sofG (a b : Int) (a1 : 1 ≤ a) (a2 : a < b) (a3 : b ≤ 12) {K : Rv → List Sl → Prop} {X : XC}
    (h : b ≤ 8 → K (.c (Cst (srtI (stp a b)))) [.dat (La a b)]) (hx : 8 < b → ∀ pl, X .TooLarge pl [.dat (La a b)]) : Y G_StepSet_of [.dat (La a b)] K X := by
  unfold G_StepSet_of B_StepSet_of
  walk_at "ys"
  by_cases c : 8 < b
  · have hx := hx c
    rw [if_pos c]
    exact ⟨by decide +kernel, by decide +kernel, by decide +kernel, by decide +kernel, hx _⟩
  have h := h (by omega)
  rw [if_neg c]
  refine ⟨by omega, ?_⟩
  have e : rngD a (b + 1 - a).toNat = (stp a b).map D.int := by unfold rngD stp iv; rw [List.map_map]; rfl
  rw [e]
  refine y_sinitG _ (by unfold stp iv; rw [List.length_map, List.length_range]; omega) (fun _ => ?_) fun z => absurd ⟨fun e => ?_, fun s hs => ?_⟩ z
  · walk_at "ys"
    exact h
  · have : b ∈ stp a b := stp_mem.mpr ⟨by omega, Int.le_refl _⟩
    rw [e] at this
    simp at this
  · have := stp_mem.mp hs
    omega

theorem y_takeL (x y z s : Int) (h1 : 1 ≤ s) (h2 : s < 1073741824) {K : Rv → List Sl → Prop} (h : ∀ d x' y' z' : Int, 0 ≤ d → d < s → K (.d (.int d)) [Po x' y' z', .dat (.int s)]) : Y G_l_take [Po x y z, .dat (.int s)] K NX := by
  unfold G_l_take B_l_take
  walk_at "ys"
  split
  · exact ⟨by omega, dOk (by omega) (by omega), h _ _ _ _ (Int.emod_nonneg _ (by omega)) (Int.emod_lt_of_pos _ (by omega))⟩
  · refine ⟨mOkL (by omega), by omega, ?_⟩
    generalize e1 : (y + 48271 * (z + 1) + 12345) % 2147483647 = u
    have u1 : 0 ≤ u ∧ u < 2147483647 := by omega
    refine ⟨mOkL (by omega), mOkL (by omega), by omega, ?_⟩
    generalize e2 : (u * u + 16807 * (z + 1) + 7) % 2147483629 = v
    have v1 : 0 ≤ v ∧ v < 2147483629 := by
      rw [← e2]; exact ⟨Int.emod_nonneg _ (by omega), Int.emod_lt_of_pos _ (by omega)⟩
    refine ⟨mOkL (by omega), mOkL (by omega), by omega, dOk (by omega) (by omega), by omega, ?_⟩
    exact h _ _ _ _ (Int.emod_nonneg _ (by omega)) (Int.emod_lt_of_pos _ (by omega))

theorem Y_cutR {s t : M Fl} {ρ : List Sl} {KF : Fl → List Sl → Prop} {X : XC} {J : List Sl → Prop} (h : Y s ρ (fun f ρ1 => match f with | .nx => J ρ1 | f => KF f ρ1) X) (k : ∀ ρ1, J ρ1 → Y t ρ1 KF X) : Y (evSeq s t) ρ KF X := by
  rw [Y_seq]
  exact h.mono (fun f ρ1 z => by cases f <;> first | exact k _ z | exact z) (fun _ _ _ z => z)

theorem fIns_ints {xs : List Int} {i v : Int} (hl : xs.length ≤ 1000) (i0 : 0 ≤ i) (i1 : i ≤ 1000) : fIns (xs.map .int) [.int i, .int v] = some (.non, (xs.take i.toNat ++ [v] ++ xs.drop i.toNat).map .int) := by
  show (if (xs.map D.int).length < 16777216 ∧ 0 ≤ i ∧ i < 2 ^ 63 then _ else _) = _
  rw [if_pos (by rw [List.length_map]; omega)]
  rw [List.map_append, List.map_append, List.map_take, List.map_drop]
  rfl
theorem ins_len {xs : List Int} {i : Nat} {v : Int} : (xs.take i ++ [v] ++ xs.drop i).length = xs.length + 1 := by
  rw [List.length_append, List.length_append, List.length_take, List.length_drop, List.length_singleton]
  omega
/-- items: some from 1 to 8, or none, or with an odd one -/
theorem y_items (x y z : Int) {K : Rv → List Sl → Prop} (h : ∀ (xs : List Int) (x' y' z' : Int), xs.length ≤ 41 → K (.c (.lst (xs.map .int))) [Po x' y' z']) : Y G_l_items [Po x y z] K NX := by
  unfold G_l_items B_l_items
  rw [Y_run0]
  show Y _ [Po x y z, .un, .un, .un, .un, .un, .un] _ _
  refine Y_cut (J := fun ρ => ρ = [Po x y z, .dat (.int 6), .un, .un, .un, .un, .un]) ?_ ?_
  · walk_at "ys"
  rintro _ rfl
  refine Y_cut (J := fun ρ => ∃ m x y z : Int, (m = 6 ∨ m = 40) ∧ ρ = [Po x y z, .dat (.int m), .un, .un, .un, .un, .un]) ?_ ?_
  · walk_at "ys"
    refine y_take _ _ _ _ (by omega) (by omega) fun d x1 y1 z1 d1 d2 => ?_
    walk_at "ys"
    split
    · exact ⟨_, _, _, _, .inr rfl, rfl⟩
    · exact ⟨_, _, _, _, .inl rfl, rfl⟩
  rintro _ ⟨m, x, y, z, hm, rfl⟩
  refine Y_cut (J := fun ρ => ∃ (xs : List Int) (x y z : Int), xs.length ≤ 40 ∧ ρ = [Po x y z, .dat (.int m), .cel .own (.lst (xs.map .int)), .un, .un, .un, .un]) ?_ ?_
  · walk_at "ys"
    refine y_take _ _ _ _ (by omega) (by omega) fun d x1 y1 z1 d1 d2 => ?_
    walk_at "ys"
    refine ⟨by omega, ?_⟩
    refine Y_lcI (I := fun r acc ρ => ∃ (i : Nat) (ps : List Int) (u v w : Int) (s : Sl), r = (rngD 0 (1 + d).toNat).drop i ∧ i ≤ (1 + d).toNat ∧ acc = ps.map .int ∧ ps.length ≤ i ∧ canSet s = true ∧ ρ = [Po u v w, .dat (.int m), .un, .un, .un, .un, s]) ⟨0, [], _, _, _, .un, rfl, Nat.zero_le _, rfl, Nat.le_refl _, rfl, rfl⟩ (fun o r acc ρ => ?_) (fun acc ρ => ?_)
    · rintro ⟨i, ps, u, v, w, s, er, il, rfl, pl, c6, rfl⟩
      obtain ⟨hi, rfl, rfl⟩ := rngc_lt er
      refine ⟨by rw [List.length_map]; omega, ?_⟩
      refine Y_tgN rfl c6 ?_
      walk_at "ys"
      refine y_take _ _ _ _ (by omega) (by omega) fun d x2 y2 z2 d1 d2 => ?_
      walk_at "ys"
      exact ⟨i + 1, ps ++ [1 + d], _, _, _, _, rfl, hi, by rw [List.map_append]; rfl, by rw [List.length_append]; simp; omega, rfl, rfl⟩
    · rintro ⟨i, ps, u, v, w, s, er, il, rfl, pl, c6, rfl⟩
      walk_at "ys"
      exact ⟨ps, _, _, _, by omega, rfl⟩
  rintro _ ⟨xs, x, y, z, hx, rfl⟩
  refine Y_cut (J := fun ρ => ∃ (c x y z : Int), ρ = [Po x y z, .dat (.int m), .cel .own (.lst (xs.map .int)), .dat (.int c), .un, .un, .un]) ?_ ?_
  · walk_at "ys"
    refine y_take _ _ _ _ (by omega) (by omega) fun d x1 y1 z1 d1 d2 => ?_
    walk_at "ys"
    exact ⟨_, _, _, _, rfl⟩
  rintro _ ⟨c, x, y, z, rfl⟩
  refine Y_cutR (J := fun ρ => ρ = [Po x y z, .dat (.int m), .cel .own (.lst (xs.map .int)), .dat (.int c), .un, .un, .un]) ?_ ?_
  · walk_at "ys"
    split
    · exact h [] _ _ _ (by simp)
    · trivial
  rintro _ rfl
  refine Y_cut (J := fun ρ => ∃ (xs : List Int) (x y z : Int) (s4 s5 : Sl), xs.length ≤ 41 ∧ ρ = [Po x y z, .dat (.int m), .cel .own (.lst (xs.map .int)), .dat (.int c), s4, s5, .un]) ?_ ?_
  · have pw : (10 : Int) ^ Int.toNat 9 = 1000000000 := by decide +kernel
    have ef : ∀ d : Int, 0 ≤ d → d < 4 → ∃ v : Int, 1 ≤ v ∧ v < 1073741824 ∧ atI [D.int 1, .int 1, .int 1, .int 1000000000] d = some (.int v) := fun d d1 d2 => by
      rcases (show d = 0 ∨ d = 1 ∨ d = 2 ∨ d = 3 by omega) with rfl | rfl | rfl | rfl
      · exact ⟨1, by omega, by omega, rfl⟩
      · exact ⟨1, by omega, by omega, rfl⟩
      · exact ⟨1, by omega, by omega, rfl⟩
      · exact ⟨1000000000, by omega, by omega, rfl⟩
    walk_at "ys"
    rw [pw]
    split
    · refine ⟨by omega, ?_⟩
      refine y_take _ _ _ _ (by omega) (by omega) fun d x1 y1 z1 d1 d2 => ?_
      obtain ⟨v, v1, v2, ev⟩ := ef d d1 d2
      walk_at "ys"
      rw [ev]
      walk_at "ys"
      refine y_takeL _ _ _ _ (by omega) (by omega) fun d3 x1 y1 z1 d4 d5 => ?_
      walk_at "ys"
      refine y_take _ _ _ _ (by omega) (by omega) fun d6 x1 y1 z1 d7 d8 => ?_
      walk_at "ys"
      split
      · refine y_take _ _ _ _ (by omega) (by omega) fun i x1 y1 z1 i1 i2 => ?_
        walk_at "ys"
        refine ⟨_, fIns_ints (by omega) i1 (by omega), ?_⟩
        walk_at "ys"
        exact ⟨_, _, _, _, _, _, by rw [ins_len]; omega, rfl⟩
      · refine y_take _ _ _ _ (by omega) (by omega) fun i x1 y1 z1 i1 i2 => ?_
        walk_at "ys"
        refine ⟨_, fIns_ints (by omega) i1 (by omega), ?_⟩
        walk_at "ys"
        exact ⟨_, _, _, _, _, _, by rw [ins_len]; omega, rfl⟩
    · split
      · refine ⟨by omega, ?_⟩
        refine y_take _ _ _ _ (by omega) (by omega) fun d x1 y1 z1 d1 d2 => ?_
        obtain ⟨v, v1, v2, ev⟩ := ef d d1 d2
        walk_at "ys"
        rw [ev]
        walk_at "ys"
        refine y_takeL _ _ _ _ (by omega) (by omega) fun d3 x1 y1 z1 d4 d5 => ?_
        walk_at "ys"
        refine y_take _ _ _ _ (by omega) (by omega) fun d6 x1 y1 z1 d7 d8 => ?_
        walk_at "ys"
        split
        · refine y_take _ _ _ _ (by omega) (by omega) fun i x1 y1 z1 i1 i2 => ?_
          walk_at "ys"
          refine ⟨_, fIns_ints (by omega) i1 (by omega), ?_⟩
          walk_at "ys"
          exact ⟨_, _, _, _, _, _, by rw [ins_len]; omega, rfl⟩
        · refine y_take _ _ _ _ (by omega) (by omega) fun i x1 y1 z1 i1 i2 => ?_
          walk_at "ys"
          refine ⟨_, fIns_ints (by omega) i1 (by omega), ?_⟩
          walk_at "ys"
          exact ⟨_, _, _, _, _, _, by rw [ins_len]; omega, rfl⟩
      · exact ⟨xs, _, _, _, _, _, by omega, rfl⟩
  rintro _ ⟨xs, x, y, z, s4, s5, hl, rfl⟩
  walk_at "ys"
  exact h xs _ _ _ hl

theorem y_made (xs : List Int) (hl : xs.length ≤ 60) {K : Rv → List Sl → Prop}
    (h : Okx xs → K (.d (.tup [.str "told", Sx (srtI xs), .bl true])) [.dat (.lst (xs.map .int))])
    (h2 : ¬ Okx xs → K (.d (.tup [.str "refused", .non, .bl true])) [.dat (.lst (xs.map .int))]) : Y G_l_made [.dat (.lst (xs.map .int))] K NX := by
  unfold G_l_made B_l_made
  walk_at "ys"
  refine y_sinitG xs hl (fun z => ?_) fun z => ?_
  · walk_at "ys"
    exact h z
  · have h2 := h2 z
    walk_at "ys"
    exact h2
theorem srtI_ne {xs : List Int} (h : xs ≠ []) : srtI xs ≠ [] := fun e => by
  cases xs with
  | nil => exact h rfl
  | cons x xs =>
    have := (srtI_mem x (x :: xs)).mpr (by simp)
    rw [e] at this
    simp at this
/-- a step set's list -/
structure Ste (st : List Int) (F : Int) : Prop where
  asc : st.Pairwise (· < ·)
  bd : ∀ s ∈ st, 1 ≤ s ∧ s ≤ 8
  len : st.length ≤ 8
  far : atI (st.map D.int) (-1) = some (.int F)
  fb : 1 ≤ F ∧ F ≤ 8
theorem asc_len : ∀ (n : Nat) (l : List Int) (lo : Int), l.Pairwise (· < ·) → (∀ s ∈ l, lo < s ∧ s ≤ lo + n) → l.length ≤ n
  | 0, [], _, _, _ => Nat.le_refl _
  | 0, x :: l, lo, _, h => by
    have := h x (by simp)
    omega
  | n + 1, [], _, _, _ => Nat.zero_le _
  | n + 1, x :: l, lo, hp, h => by
    have hx := h x (by simp)
    have := asc_len n l x (List.pairwise_cons.mp hp).2 fun s hs => ⟨(List.pairwise_cons.mp hp).1 s hs, by have := h s (by simp [hs]); omega⟩
    rw [List.length_cons]
    omega
theorem ste_of {xs : List Int} (h : Okx xs) : ∃ F, Ste (srtI xs) F := by
  have bd : ∀ s ∈ srtI xs, 1 ≤ s ∧ s ≤ 8 := fun s hs => h.2 s ((srtI_mem s xs).mp hs)
  obtain ⟨i, F, e⟩ := snoc_of (srtI_ne h.1)
  refine ⟨F, srtI_asc xs, bd, asc_len 8 _ 0 (srtI_asc xs) fun s hs => by have := bd s hs; omega, ?_, bd F (by rw [e]; simp)⟩
  rw [e, List.map_append]
  exact ix_neg1
theorem sok_ints (n : Nat) (xs : List Int) (h : xs.length < 100000) : sok (n + 2) (.lst (xs.map .int)) := ⟨by rw [List.length_map]; omega, fun x hx => by obtain ⟨k, _, rfl⟩ := List.mem_map.mp hx; trivial⟩
theorem sok_intsT (n : Nat) (xs : List Int) (h : xs.length < 100000) : sok (n + 2) (.tup (xs.map .int)) := ⟨by rw [List.length_map]; omega, fun x hx => by obtain ⟨k, _, rfl⟩ := List.mem_map.mp hx; trivial⟩
theorem canSet_d {d : D} : canSet (.dat d) = true := rfl
theorem y_is (st : List Int) (F : Int) (S : Ste st F) {K : Rv → List Sl → Prop} (h : K (.d (.bl true)) [.dat (Sx st), .dat (.lst (st.map .int))]) : Y G_l_is [.dat (Sx st), .dat (.lst (st.map .int))] K NX := by
  have hl := S.len
  unfold G_l_is B_l_is
  walk_at "ys"
  refine y_sameD 4 _ (sok_intsT 2 st (by omega)) ?_
  walk_at "ys"
  refine y_sfar st F S.far ?_
  walk_at "ys"
  rw [S.far]
  walk_at "ys"
  refine y_sameD 4 _ (by trivial) ?_
  walk_at "ys"
  refine y_sameD 4 _ (sok_ints 2 st (by omega)) ?_
  walk_at "ys"
  refine Y_loop (I := fun r ρ => (∃ rest : List Int, r = rest.map D.int) ∧ ∃ s2 : Sl, canSet s2 = true ∧ ρ = [.dat (Sx st), .dat (.lst (st.map .int)), s2])
    ⟨⟨[-9, -8, -2, -1, 0, 1, 2, 3, 4, 5, 6, 7, 8, 9, 10, 11, 1000000], rfl⟩, .un, rfl, rfl⟩ (fun x r ρ => ?_) (fun ρ => ?_)
  · rintro ⟨⟨rest, er⟩, s2, c2, rfl⟩
    cases rest with
    | nil => cases er
    | cons a rest =>
      cases er
      refine Y_tgN rfl c2 ?_
      walk_at "ys"
      refine y_scont st (by omega) a ?_
      walk_at "ys"
      rw [beq_self_eq_true, if_neg (by simp)]
      exact ⟨⟨rest, rfl⟩, _, canSet_d, rfl⟩
  · rintro ⟨⟨rest, er⟩, s2, c2, rfl⟩
    walk_at "ys"
    exact h
theorem y_of (a b : Int) (a1 : 1 ≤ a) (a2 : a < b) (a3 : b ≤ 12) {K : Rv → List Sl → Prop} (h : K (.d (.bl true)) [.dat (.tup [.int a, .int b])]) : Y G_l_of [.dat (.tup [.int a, .int b])] K NX := by
  unfold G_l_of B_l_of
  walk_at "ys"
  refine y_lac a b (by omega) (by omega) (by omega) ?_
  walk_at "ys"
  refine y_sofG a b (by omega) (by omega) (by omega) (fun c => ?_) fun c pl => ?_
  · have er : srtI (stp a b) = stp a b := srtI_self stp_rise
    have e : rngD a (b + 1 - a).toNat = (stp a b).map D.int := by unfold rngD stp iv; rw [List.map_map]; rfl
    have ho : Okx (stp a b) := ⟨stp_ne a2, fun s hs => by have := stp_mem.mp hs; omega⟩
    obtain ⟨F, S⟩ := ste_of ho
    rw [er] at S
    have sl := S.len
    rw [er]
    walk_at "ys"
    rw [if_neg (by omega)]
    refine ⟨by omega, ?_⟩
    refine Y_lcGo (f := some) (ρ0 := [.dat (.tup [.int a, .int b]), .dat (.str "told"), .dat (Sx (stp a b)), .dat (.bl true), .un, .un]) (P := fun _ => True) (fun x acc _ hl => ?_) _ _ (fun x hx => trivial) ?_ ?_
    · walk_at "ys"
    · rw [e, List.length_map]
      simp
      omega
    · rw [List.nil_append, List.filterMap_some, e]
      walk_at "ys"
      refine y_is _ F S ?_
      walk_at "ys"
      exact h
  · walk_at "ys"
    rw [if_pos (by omega)]
    exact h
def fW (x : D) : Option D := match x with | .tup [.int w, .int _] => some (.int w) | _ => none
theorem fW_fm : ∀ ks : List (Int × Int), (kl ks).filterMap fW = (ks.map (·.1)).map D.int
  | [] => rfl
  | (w, g) :: ks => congrArg (D.int w :: ·) (fW_fm ks)
theorem y_some_stand (x y z m : Int) (ks : List (Int × Int)) (hg : Gd 16 120 ks) (hk : ks.length ≤ 1000) (m1 : 1 ≤ m) (m2 : m ≤ 1000) (F : Int) (F1 : 1 ≤ F) (F8 : F ≤ 8) {K : Rv → List Sl → Prop}
    (h : ∀ (q : Bool) (n : Int) (as : List Int) (x' y' z' : Int), 0 ≤ n → as.length ≤ 999 → K (.d (stN q n as)) [Po x' y' z', .dat (.lst (kl ks)), .dat (.int m), .dat (.int F)]) : Y G_l_some_stand [Po x y z, .dat (.lst (kl ks)), .dat (.int m), .dat (.int F)] K NX := by
  unfold G_l_some_stand B_l_some_stand
  rw [Y_run0]
  show Y _ [Po x y z, .dat (.lst (kl ks)), .dat (.int m), .dat (.int F), .un, .un, .un, .un] _ _
  refine Y_cut (J := fun ρ => ∃ n x y z : Int, 0 ≤ n ∧ ρ = [Po x y z, .dat (.lst (kl ks)), .dat (.int m), .dat (.int F), .dat (skN true n), .un, .un, .un]) ?_ ?_
  · walk_at "ys"
    refine y_take _ _ _ _ (by omega) (by omega) fun d x1 y1 z1 d1 d2 => ?_
    walk_at "ys"
    exact ⟨_, _, _, _, by omega, rfl⟩
  rintro _ ⟨n, x, y, z, n0, rfl⟩
  refine Y_cut (J := fun ρ => ∃ (q : Bool) (n x y z : Int), 0 ≤ n ∧ ρ = [Po x y z, .dat (.lst (kl ks)), .dat (.int m), .dat (.int F), .dat (skN q n), .un, .un, .un]) ?_ ?_
  · walk_at "ys"
    split
    · rename_i c0
      refine y_take _ _ _ _ (by omega) (by omega) fun d x1 y1 z1 d1 d2 => ?_
      walk_at "ys"
      split
      · refine Y_lcGo (f := fW) (ρ0 := [Po x1 y1 z1, .dat (.lst (kl ks)), .dat (.int m), .dat (.int F), .dat (skN true n), .un, .un, .un]) (P := fun x => ∃ k : Int × Int, x = kd k) (fun x acc ⟨⟨w, g⟩, e⟩ hl => ?_) _ _ (fun x hx => ?_) ?_ ?_
        · subst e
          unfold kd
          walk_at "ys"
          rfl
        · obtain ⟨k, _, rfl⟩ := List.mem_map.mp hx
          exact ⟨k, rfl⟩
        · rw [kl_len]
          simp
          omega
        · have kne : ks.map (·.1) ≠ [] := fun z => by
            have z : ks = [] := List.map_eq_nil_iff.mp z
            subst z
            rw [kl_len] at c0
            simp at c0
          have mw := (maxI_spec kne).1
          obtain ⟨k, hk1, ek⟩ := List.mem_map.mp mw
          have gk := hg k hk1
          rw [List.nil_append, fW_fm]
          walk_at "ys"
          refine ⟨_, gMaxL_ints kne, ?_⟩
          walk_at "ys"
          refine y_take _ _ _ _ (by omega) (by omega) fun d x1 y1 z1 d1 d2 => ?_
          walk_at "ys"
          exact ⟨false, _, _, _, _, d1, rfl⟩
      · exact ⟨true, n, _, _, _, n0, rfl⟩
    · exact ⟨true, n, _, _, _, n0, rfl⟩
  rintro _ ⟨q, n, x, y, z, n0, rfl⟩
  generalize eK : skN q n = S0
  refine Y_cut (J := fun ρ => ∃ (as : List Int) (x y z : Int), as.length ≤ 8 ∧ ρ = [Po x y z, .dat (.lst (kl ks)), .dat (.int m), .dat (.int F), .dat S0, .dat (.lst (as.map .int)), .un, .un]) ?_ ?_
  · walk_at "ys"
    refine ⟨by omega, ?_⟩
    refine Y_lcI (I := fun r acc ρ => ∃ (i : Nat) (ps : List Int) (u v w : Int) (s : Sl), r = (rngD 0 F.toNat).drop i ∧ i ≤ F.toNat ∧ acc = ps.map .int ∧ ps.length ≤ i ∧ canSet s = true ∧ ρ = [Po u v w, .dat (.lst (kl ks)), .dat (.int m), .dat (.int F), .dat S0, .un, .un, s]) ⟨0, [], _, _, _, .un, rfl, Nat.zero_le _, rfl, Nat.le_refl _, rfl, rfl⟩ (fun o r acc ρ => ?_) (fun acc ρ => ?_)
    · rintro ⟨i, ps, u, v, w, s, er, il, rfl, pl, c6, rfl⟩
      obtain ⟨hi, rfl, rfl⟩ := rngc_lt er
      refine ⟨by rw [List.length_map]; omega, ?_⟩
      refine Y_tgN rfl c6 ?_
      walk_at "ys"
      refine y_take _ _ _ _ (by omega) (by omega) fun d x2 y2 z2 d1 d2 => ?_
      walk_at "ys"
      split
      · exact ⟨i + 1, ps ++ [0 + (i : Int)], _, _, _, _, rfl, hi, by rw [List.map_append]; rfl, by rw [List.length_append]; simp; omega, rfl, rfl⟩
      · exact ⟨i + 1, ps, _, _, _, _, rfl, hi, rfl, by omega, rfl, rfl⟩
    · rintro ⟨i, ps, u, v, w, s, er, il, rfl, pl, c6, rfl⟩
      walk_at "ys"
      exact ⟨ps, _, _, _, by omega, rfl⟩
  rintro _ ⟨as, x, y, z, ha, rfl⟩
  subst eK
  walk_at "ys"
  exact h q n as _ _ _ n0 (by omega)

theorem y_odd (st : List Int) (F : Int) (S : Ste st F) (ks : List (Int × Int)) (hg : Gd 16 120 ks) (q : Bool) (n : Int) (n0 : 0 ≤ n) (as : List Int) (ha : as.length ≤ 999) {K : Rv → List Sl → Prop}
    (h : K (.d (.bl true)) [.dat (Sx st), .dat (.lst (st.map .int)), .dat (.lst (kl ks)), .dat (Ci ks), .dat (.int (max 1 (ndK ks))), .dat (stN q n as)]) :
    Y G_l_odd_right [.dat (Sx st), .dat (.lst (st.map .int)), .dat (.lst (kl ks)), .dat (Ci ks), .dat (.int (max 1 (ndK ks))), .dat (stN q n as)] K NX := by
  have hl := S.len
  unfold G_l_odd_right B_l_odd_right
  rw [Y_run0]
  show Y _ [.dat (Sx st), .dat (.lst (st.map .int)), .dat (.lst (kl ks)), .dat (Ci ks), .dat (.int (max 1 (ndK ks))), .dat (stN q n as), .un] _ _
  refine Y_cut (J := fun ρ => ∃ s, ρ = [.dat (Sx st), .dat (.lst (st.map .int)), .dat (.lst (kl ks)), .dat (Ci ks), .dat (.int (max 1 (ndK ks))), .dat (stN q n as), s]) ?_ ?_
  · walk_at "ys"
    refine Y_loop (I := fun r ρ => (∃ rest : List Bool, r = rest.map fun c => Ws [c]) ∧ ∃ s2 : Sl, canSet s2 = true ∧ ρ = [.dat (Sx st), .dat (.lst (st.map .int)), .dat (.lst (kl ks)), .dat (Ci ks), .dat (.int (max 1 (ndK ks))), .dat (stN q n as), s2])
      ⟨⟨[false, true], rfl⟩, .un, rfl, rfl⟩ (fun x r ρ => ?_) (fun ρ => ?_)
    · rintro ⟨⟨rest, er⟩, s2, c2, rfl⟩
      cases rest with
      | nil => cases er
      | cons c rest =>
        cases er
        refine Y_tgN rfl c2 ?_
        by_cases z : c = true ∧ mayO (wl ks) q n < 1
        · walk_at "ys"
          refine y_nstO ks hg st F S.far (by omega) q n n0 c as (by omega) (fun y => absurd z y) fun _ => ?_
          walk_at "ys"
          refine y_lstO ks (fun k hk => by have := (hg k hk).1; omega) _ st F S.far q n c as (by omega) (fun y => absurd z y) fun _ => ?_
          walk_at "ys"
          refine y_sameD 4 _ (by trivial) ?_
          walk_at "ys"
          exact ⟨⟨rest, rfl⟩, _, canSet_d, rfl⟩
        · walk_at "ys"
          refine y_nstO ks hg st F S.far (by omega) q n n0 c as (by omega) (fun _ => ?_) fun y => absurd y z
          walk_at "ys"
          refine y_lstO ks (fun k hk => by have := (hg k hk).1; omega) _ st F S.far q n c as (by omega) (fun _ => ?_) fun y => absurd y z
          walk_at "ys"
          refine y_sameD 4 _ (sok_st _ _ _ (by have := nag_len (st := st) (F := F) (c := c) (as := as); omega) 1) ?_
          walk_at "ys"
          exact ⟨⟨rest, rfl⟩, _, canSet_d, rfl⟩
    · rintro ⟨⟨rest, er⟩, s2, c2, rfl⟩
      exact ⟨rfl, _, rfl⟩
  rintro _ ⟨s, rfl⟩
  walk_at "ys"
  exact h

section
variable {KF : Fl → List Sl → Prop} {X : XC} {ρ : List Sl}
theorem Y_poLast {i : Nat} {c : CC} {b : M Fl} (h : Y (PL.setC i c) ρ (fun _ ρ1 => Y b ρ1 (fun f ρ2 => match f with | .rt v => KF (.rt v) ρ2 | _ => KF .nx ρ2) X) X) : Y (poLast i c b) ρ KF X := by
  simp only [Y_eq] at *
  unfold Y0 poLast at *
  cases e : PL.setC i c ρ with
  | none => rw [e] at h; exact h
  | some x =>
    obtain ⟨r, ρ1⟩ := x
    obtain ⟨rfl, -, -⟩ := setC_some e
    rw [e] at h
    simp only at h ⊢
    cases e2 : b ρ1 with
    | none => rw [e2] at h; exact h
    | some x =>
      obtain ⟨r, ρ2⟩ := x
      rw [e2] at h
      cases r with
      | er c pl => exact h
      | ok f => cases f <;> exact h
theorem Y_poOne {i : Nat} {c c2 : CC} {b : M Fl} (h : Y (PL.setC i c) ρ (fun _ ρ1 => Y b ρ1 (fun f ρ2 => match f with
    | .rt v => KF (.rt v) ρ2
    | .bk => KF .nx ρ2
    | _ => Y (poLast i c2 b) ρ2 KF X) X) X) : Y (poOne i c c2 b) ρ KF X := by
  simp only [Y_eq] at *
  unfold Y0 poOne at *
  cases e : PL.setC i c ρ with
  | none => rw [e] at h; exact h
  | some x =>
    obtain ⟨r, ρ1⟩ := x
    obtain ⟨rfl, -, -⟩ := setC_some e
    rw [e] at h
    simp only at h ⊢
    cases e2 : b ρ1 with
    | none => rw [e2] at h; exact h
    | some x =>
      obtain ⟨r, ρ2⟩ := x
      rw [e2] at h
      cases r with
      | er c pl => exact h
      | ok f => cases f <;> exact h
theorem Y_po {j y z i : Nat} {fa fb : Ev} {b : M Fl} (hj : ¬ (y = j ∨ z = j)) (h : Y fa ρ (fun r1 ρ1 => ∃ c1, r1 = .c c1 ∧ Y fb ρ1 (fun r2 ρ2 => ∃ c2, r2 = .c c2 ∧ ∃ s, ρ2[j]? = some s ∧ canSet s = true ∧
    Y (PL.setC y (.lst [])) (ρ2.set j .un) (fun _ ρ3 => Y (PL.setC z (.lst [])) ρ3 (fun _ ρ4 => Y (poOne i c1 c2 b) ρ4 KF X) X) X) X) X) : Y (evPo j y z i fa fb b) ρ KF X := by
  unfold evPo
  rw [Y_bnd]
  refine h.mono (fun r1 ρ1 q => ?_) fun _ _ _ q => q
  obtain ⟨c1, rfl, q⟩ := q
  show Y (bnd fb _) ρ1 KF X
  rw [Y_bnd]
  refine q.mono (fun r2 ρ2 q => ?_) fun _ _ _ q => q
  obtain ⟨c2, rfl, s, es, cs, q⟩ := q
  simp only [Y_eq] at *
  unfold Y0 at q ⊢
  simp only
  rw [if_neg hj]
  have eu : unS j ρ2 = some (.ok .nx, ρ2.set j .un) := by
    unfold unS
    rw [es]
    cases s with
    | cel k c => cases k <;> first | rfl | (exact absurd cs (by simp [canSet]))
    | _ => rfl
  rw [eu]
  simp only
  cases e : PL.setC y (.lst []) (ρ2.set j .un) with
  | none => rw [e] at q; exact q
  | some x =>
    obtain ⟨r, ρ3⟩ := x
    obtain ⟨rfl, -, -⟩ := setC_some e
    rw [e] at q
    simp only at q ⊢
    cases e2 : PL.setC z (.lst []) ρ3 with
    | none => rw [e2] at q; exact q
    | some x =>
      obtain ⟨r, ρ4⟩ := x
      obtain ⟨rfl, -, -⟩ := setC_some e2
      rw [e2] at q
      simp only at q ⊢
      exact q
end

def fP (p : Int → Bool) (x : D) : Option D := match x with | .int i => if p i = true then some (.int i) else none | _ => none
theorem fP_fm (p : Int → Bool) : ∀ as : List Int, (as.map D.int).filterMap (fP p) = (as.filter p).map D.int
  | [] => rfl
  | a :: as => by
    have ih := fP_fm p as
    have e : fP p (.int a) = if p a = true then some (.int a) else none := rfl
    rw [List.map_cons, List.filterMap_cons, List.filter_cons, ih, e]
    by_cases c : p a = true
    · rw [if_pos c, if_pos c]; rfl
    · rw [if_neg c, if_neg c]
def outB (i : Int) : Bool := decide (i < 1) || decide (8 < i)
theorem out_none {xs : List Int} (h : Okx xs) : xs.filter outB = [] := List.filter_eq_nil_iff.mpr fun x hx => by
  have := h.2 x hx
  unfold outB
  rw [decide_eq_false (by omega), decide_eq_false (by omega)]
  simp
theorem out_pos {xs : List Int} (ne : xs ≠ []) (h : ¬ Okx xs) : 0 < (xs.filter outB).length := by
  rw [List.length_pos_iff_exists_mem]
  rcases Classical.em (∃ x ∈ xs, ¬ (1 ≤ x ∧ x ≤ 8)) with ⟨x, hx, z⟩ | z
  · refine ⟨x, List.mem_filter.mpr ⟨hx, ?_⟩⟩
    unfold outB
    rcases Int.lt_or_le x 1 with q | q
    · rw [decide_eq_true q]; rfl
    · rw [decide_eq_true (show 8 < x by omega), Bool.or_true]
  · exact absurd ⟨ne, fun x hx => Classical.byContradiction fun y => z ⟨x, hx, y⟩⟩ h
theorem rng8 : rngD 1 8 = (iv 1 8).map D.int := by unfold rngD iv; rw [List.map_map]; rfl
theorem steps_of {xs : List Int} (h : Okx xs) : (iv 1 8).filter (fun s => decide (s ∈ xs)) = srtI xs := lt_uniq (iv_rise.filter _) (srtI_asc xs) fun k => by
  rw [List.mem_filter, srtI_mem, iv_mem, decide_eq_true_iff]
  exact ⟨fun z => z.2, fun z => ⟨by have := h.2 k z; omega, z⟩⟩
theorem srtI_cong {xs ys : List Int} (h : ∀ k, k ∈ xs ↔ k ∈ ys) : srtI xs = srtI ys := lt_uniq (srtI_asc xs) (srtI_asc ys) fun k => by rw [srtI_mem, srtI_mem, h]
theorem srtI_rev (xs : List Int) : srtI xs.reverse = srtI xs := srtI_cong fun k => List.mem_reverse
theorem Okx.rev {xs : List Int} (h : Okx xs) : Okx xs.reverse := ⟨fun z => h.1 (List.reverse_eq_nil_iff.mp z), fun x hx => h.2 x (List.mem_reverse.mp hx)⟩
theorem lfr_ints : ∀ xs : List Int, D.lfrees (xs.map D.int) = true
  | [] => rfl
  | _ :: xs => lfr_ints xs

/-- what is done with each of the two pools -/
def Btn : M Fl :=
    (evSeq (evAsg 5 (evCall0 1 G_l_items [.c 4]))
    (evSeq (evAsgC 6 (evBc gLst [.e (evV 5)]))
    (evSeq (evAsg 7 (look 6 Rv.lfree (evCall0 1 G_l_made [.e (evV 6)])))
    (evSeq (evIf (tNo (look 6 (fun _ => true) (tst (evCall0 2 G_l_same [.e (evV 6), .e (evV 5)]))))
    (evRet (vD (.bl false)))
    evNx)
    (evSeq (evIf (tOo (tst (ev2 dEq (evB gLen [.e (evV 5)]) (vD (.int 0)))) (tst (ev2 dGt (evB gLen [.e (evLc [17] (itL (evV 5)) (.n 17) (tOo (tst (ev2 dLt (evV 17) (vD (.int 1)))) (tst (ev2 dGt (evV 17) (vD (.int 8))))) (evV 17))]) (vD (.int 0)))))
    (evRet (vAn (ev2 dEq (ev2 dIx (evV 7) (vD (.int 0))) (vD (.str "refused"))) (ev2 dIx (evV 7) (vD (.int 2)))))
    evNx)
    (evSeq (evIf (tst (ev2 dNe (ev2 dIx (evV 7) (vD (.int 0))) (vD (.str "told"))))
    (evRet (vD (.bl false)))
    evNx)
    (evSeq (evSetI 6 (vD (.int 0)) (ev2 dSub (vD (.int 9)) (look 6 Rv.lfree (ev2 dIx (evV 6) (vD (.int 0))))))
    (evSeq (evEx (evBmL 6 fApp [.e (vD (.int 8))]))
    (evSeq (evEx (evBmL 2 fApp [.e (ev2 dIx (evV 7) (vD (.int 1)))]))
    (evSeq (evEx (evBmL 3 fApp [.e (evLc [17] (itR2 (vD (.int 1)) (vD (.int 9))) (.n 17) (tst (ev2 dIn (evV 17) (evV 5))) (evV 17))]))
    (evIf (tOo (tNo (tst (evCall0 2 G_l_is [.e (ev2 dIx (evV 7) (vD (.int 1))), .e (evIxL 3 (ev1 dNeg (vD (.int 1))))]))) (tNo (tst (evCall0 2 G_l_same [.e (evOwn2 2 G_StepSet_eq .StepSet (ev2 dIx (evV 7) (vD (.int 1))) (evMk0 2 G_StepSet_init .StepSet [.e (evRev (evV 5))])), .e (vD (.bl true))]))))
    (evRet (vD (.bl false)))
    evNx)))))))))))
theorem y_turn (S0 : Sl) (L M : List D) (hL : L.length ≤ 10) (hM : M.length ≤ 10) (x y z : Int) (s5 s6 s7 : Sl) (c5 : canSet s5 = true) (c6 : canSet s6 = true) (c7 : canSet s7 = true) {KF : Fl → List Sl → Prop}
    (hr : ∀ ρ, KF (.rt (.d (.bl true))) ρ)
    (hn : ∀ (st : List Int) (F x y z : Int) (s5 s6 s7 : Sl), Ste st F → canSet s5 = true → canSet s6 = true → canSet s7 = true → KF .nx [S0, .un, .cel .own (.lst (L ++ [Sx st])), .cel .own (.lst (M ++ [.lst (st.map .int)])), .cel .own (.lst [.int x, .int y, .int z]), s5, s6, s7, .un, .un, .un, .un, .un, .un, .un, .un, .un, .un]) :
    Y Btn [S0, .un, .cel .own (.lst L), .cel .own (.lst M), .cel .own (.lst [.int x, .int y, .int z]), s5, s6, s7, .un, .un, .un, .un, .un, .un, .un, .un, .un, .un] KF NX := by
  unfold Btn
  refine Y_cutR (J := fun ρ => ∃ (xs : List Int) (x y z : Int), (xs.length ≤ 41) ∧ ρ = [S0, .un, .cel .own (.lst L), .cel .own (.lst M), .cel .own (.lst [.int x, .int y, .int z]), .dat (.lst (xs.map .int)), s6, s7, .un, .un, .un, .un, .un, .un, .un, .un, .un, .un]) ?_ ?_
  · walk_at "ys"
    refine y_items _ _ _ fun xs x1 y1 z1 hl => ?_
    walk_at "ys"
    exact ⟨c5, xs, _, _, _, hl, rfl⟩
  rintro _ ⟨xs, x, y, z, hl, rfl⟩
  refine Y_cutR (J := fun ρ => ρ = [S0, .un, .cel .own (.lst L), .cel .own (.lst M), .cel .own (.lst [.int x, .int y, .int z]), .dat (.lst (xs.map .int)), .cel .own (.lst (xs.map .int)), s7, .un, .un, .un, .un, .un, .un, .un, .un, .un, .un]) ?_ ?_
  · walk_at "ys"
    exact c6
  rintro _ rfl
  by_cases ho : Okx xs
  case neg =>
    refine Y_cutR (J := fun ρ => ρ = [S0, .un, .cel .own (.lst L), .cel .own (.lst M), .cel .own (.lst [.int x, .int y, .int z]), .dat (.lst (xs.map .int)), .cel .own (.lst (xs.map .int)), .dat (.tup [.str "refused", .non, .bl true]), .un, .un, .un, .un, .un, .un, .un, .un, .un, .un]) ?_ ?_
    · walk_at "ys"
      refine y_made xs (by omega) (fun z => absurd z ho) fun _ => ?_
      walk_at "ys"
      exact c7
    rintro _ rfl
    refine Y_cutR (J := fun ρ => ρ = [S0, .un, .cel .own (.lst L), .cel .own (.lst M), .cel .own (.lst [.int x, .int y, .int z]), .dat (.lst (xs.map .int)), .cel .own (.lst (xs.map .int)), .dat (.tup [.str "refused", .non, .bl true]), .un, .un, .un, .un, .un, .un, .un, .un, .un, .un]) ?_ ?_
    · walk_at "ys"
      refine y_sameD 4 _ (sok_ints 2 xs (by omega)) ?_
      walk_at "ys"
    rintro _ rfl
    rw [Y_seq]
    by_cases ne : xs = []
    · subst ne
      walk_at "ys"
      exact hr _
    · have ol := out_pos ne ho
      have l0 : ¬ ((xs.length : Int) = 0) := fun z => ne (List.length_eq_zero_iff.mp (by omega))
      walk_at "ys"
      rw [if_neg l0]
      refine Y_lcGo (f := fP outB) (ρ0 := [S0, .un, .cel .own (.lst L), .cel .own (.lst M), .cel .own (.lst [.int x, .int y, .int z]), .dat (.lst (xs.map .int)), .cel .own (.lst (xs.map .int)), .dat (.tup [.str "refused", .non, .bl true]), .un, .un, .un, .un, .un, .un, .un, .un, .un, .un]) (P := fun x => ∃ i : Int, x = .int i) (fun x acc ⟨i, e⟩ hl2 => ?_) _ _ (fun x hx => ?_) ?_ ?_
      · subst e
        walk_at "ys"
        by_cases q1 : i < 1
        · rw [if_pos q1]
          have e : outB i = true := by unfold outB; rw [decide_eq_true q1]; rfl
          exact if_pos e
        · rw [if_neg q1]
          by_cases q2 : 8 < i
          · rw [if_pos q2]
            have e : outB i = true := by unfold outB; rw [decide_eq_true q2, Bool.or_true]
            exact if_pos e
          · rw [if_neg q2]
            have e : outB i = false := by unfold outB; rw [decide_eq_false q1, decide_eq_false q2]; rfl
            show (if outB i = true then some (D.int i) else none) = none
            rw [e]; rfl
      · obtain ⟨i, _, rfl⟩ := List.mem_map.mp hx
        exact ⟨i, rfl⟩
      · rw [List.length_map]
        simp
        omega
      · rw [List.nil_append, fP_fm]
        walk_at "ys"
        rw [if_pos (by omega)]
        exact hr _
  refine Y_cutR (J := fun ρ => ρ = [S0, .un, .cel .own (.lst L), .cel .own (.lst M), .cel .own (.lst [.int x, .int y, .int z]), .dat (.lst (xs.map .int)), .cel .own (.lst (xs.map .int)), .dat (.tup [.str "told", Sx (srtI xs), .bl true]), .un, .un, .un, .un, .un, .un, .un, .un, .un, .un]) ?_ ?_
  · walk_at "ys"
    refine y_made xs (by omega) (fun _ => ?_) fun z => absurd ho z
    walk_at "ys"
    exact ⟨lfr_ints _, c7⟩
  rintro _ rfl
  refine Y_cutR (J := fun ρ => ρ = [S0, .un, .cel .own (.lst L), .cel .own (.lst M), .cel .own (.lst [.int x, .int y, .int z]), .dat (.lst (xs.map .int)), .cel .own (.lst (xs.map .int)), .dat (.tup [.str "told", Sx (srtI xs), .bl true]), .un, .un, .un, .un, .un, .un, .un, .un, .un, .un]) ?_ ?_
  · walk_at "ys"
    refine y_sameD 4 _ (sok_ints 2 xs (by omega)) ?_
    walk_at "ys"
  rintro _ rfl
  have ne := ho.1
  have l0 : ¬ ((xs.length : Int) = 0) := fun z => ne (List.length_eq_zero_iff.mp (by omega))
  refine Y_cutR (J := fun ρ => ρ = [S0, .un, .cel .own (.lst L), .cel .own (.lst M), .cel .own (.lst [.int x, .int y, .int z]), .dat (.lst (xs.map .int)), .cel .own (.lst (xs.map .int)), .dat (.tup [.str "told", Sx (srtI xs), .bl true]), .un, .un, .un, .un, .un, .un, .un, .un, .un, .un]) ?_ ?_
  · walk_at "ys"
    rw [if_neg l0]
    refine Y_lcGo (f := fP outB) (ρ0 := [S0, .un, .cel .own (.lst L), .cel .own (.lst M), .cel .own (.lst [.int x, .int y, .int z]), .dat (.lst (xs.map .int)), .cel .own (.lst (xs.map .int)), .dat (.tup [.str "told", Sx (srtI xs), .bl true]), .un, .un, .un, .un, .un, .un, .un, .un, .un, .un]) (P := fun x => ∃ i : Int, x = .int i) (fun x acc ⟨i, e⟩ hl2 => ?_) _ _ (fun x hx => ?_) ?_ ?_
    · subst e
      walk_at "ys"
      by_cases q1 : i < 1
      · rw [if_pos q1]
        have e : outB i = true := by unfold outB; rw [decide_eq_true q1]; rfl
        exact if_pos e
      · rw [if_neg q1]
        by_cases q2 : 8 < i
        · rw [if_pos q2]
          have e : outB i = true := by unfold outB; rw [decide_eq_true q2, Bool.or_true]
          exact if_pos e
        · rw [if_neg q2]
          have e : outB i = false := by unfold outB; rw [decide_eq_false q1, decide_eq_false q2]; rfl
          show (if outB i = true then some (D.int i) else none) = none
          rw [e]; rfl
    · obtain ⟨i, _, rfl⟩ := List.mem_map.mp hx
      exact ⟨i, rfl⟩
    · rw [List.length_map]
      simp
      omega
    · rw [List.nil_append, fP_fm]
      rw [out_none ho]
      walk_at "ys"
      rw [if_neg (by simp)]
      trivial
  rintro _ rfl
  refine Y_cutR (J := fun ρ => ρ = [S0, .un, .cel .own (.lst L), .cel .own (.lst M), .cel .own (.lst [.int x, .int y, .int z]), .dat (.lst (xs.map .int)), .cel .own (.lst (xs.map .int)), .dat (.tup [.str "told", Sx (srtI xs), .bl true]), .un, .un, .un, .un, .un, .un, .un, .un, .un, .un]) ?_ ?_
  · walk_at "ys"
    rw [if_neg (by simp)]
    trivial
  rintro _ rfl
  refine Y_cutR (J := fun ρ => ∃ hs : List Int, (hs.length ≤ 41) ∧ ρ = [S0, .un, .cel .own (.lst L), .cel .own (.lst M), .cel .own (.lst [.int x, .int y, .int z]), .dat (.lst (xs.map .int)), .cel .own (.lst (hs.map .int)), .dat (.tup [.str "told", Sx (srtI xs), .bl true]), .un, .un, .un, .un, .un, .un, .un, .un, .un, .un]) ?_ ?_
  · cases xs with
    | nil => exact absurd rfl ne
    | cons x0 xs =>
      walk_at "ys"
      exact ⟨0, by simp [ixN], (9 - x0) :: xs, hl, rfl⟩
  rintro _ ⟨hs, hl2, rfl⟩
  refine Y_cutR (J := fun ρ => ∃ hs : List Int, (hs.length ≤ 42) ∧ ρ = [S0, .un, .cel .own (.lst L), .cel .own (.lst M), .cel .own (.lst [.int x, .int y, .int z]), .dat (.lst (xs.map .int)), .cel .own (.lst (hs.map .int)), .dat (.tup [.str "told", Sx (srtI xs), .bl true]), .un, .un, .un, .un, .un, .un, .un, .un, .un, .un]) ?_ ?_
  · walk_at "ys"
    exact ⟨by omega, hs ++ [8], by rw [List.length_append]; simp; omega, by rw [List.map_append]; rfl⟩
  rintro _ ⟨hs, hl2, rfl⟩
  obtain ⟨F, S⟩ := ste_of ho
  have es := steps_of ho
  generalize eS : srtI xs = st at S es ⊢
  refine Y_cutR (J := fun ρ => ρ = [S0, .un, .cel .own (.lst (L ++ [Sx st])), .cel .own (.lst M), .cel .own (.lst [.int x, .int y, .int z]), .dat (.lst (xs.map .int)), .cel .own (.lst (hs.map .int)), .dat (.tup [.str "told", Sx st, .bl true]), .un, .un, .un, .un, .un, .un, .un, .un, .un, .un]) ?_ ?_
  · walk_at "ys"
    omega
  rintro _ rfl
  refine Y_cutR (J := fun ρ => ρ = [S0, .un, .cel .own (.lst (L ++ [Sx st])), .cel .own (.lst (M ++ [.lst (st.map .int)])), .cel .own (.lst [.int x, .int y, .int z]), .dat (.lst (xs.map .int)), .cel .own (.lst (hs.map .int)), .dat (.tup [.str "told", Sx st, .bl true]), .un, .un, .un, .un, .un, .un, .un, .un, .un, .un]) ?_ ?_
  · walk_at "ys"
    refine ⟨by omega, ?_⟩
    have r8 : (9 - 1 : Int).toNat = 8 := rfl
    rw [r8]
    refine Y_lcGo (f := fP fun s => decide (s ∈ xs)) (ρ0 := [S0, .un, .cel .own (.lst (L ++ [Sx st])), .cel .own (.lst M), .cel .own (.lst [.int x, .int y, .int z]), .dat (.lst (xs.map .int)), .cel .own (.lst (hs.map .int)), .dat (.tup [.str "told", Sx st, .bl true]), .un, .un, .un, .un, .un, .un, .un, .un, .un, .un]) (P := fun x => ∃ i : Int, x = .int i) (fun x acc ⟨i, e⟩ hl2 => ?_) _ _ (fun x hx => ?_) ?_ ?_
    · subst e
      walk_at "ys"
      by_cases q1 : i ∈ xs
      · rw [if_pos q1]
        exact if_pos (decide_eq_true q1)
      · rw [if_neg q1]
        exact if_neg fun z => q1 (of_decide_eq_true z)
    · rw [rng8] at hx
      obtain ⟨i, _, rfl⟩ := List.mem_map.mp hx
      exact ⟨i, rfl⟩
    · rw [rng8, List.length_map]
      decide
    · rw [List.nil_append, rng8, fP_fm, es]
      walk_at "ys"
      omega
  rintro _ rfl
  walk_at "ys"
  refine ⟨_, ix_neg1, ?_⟩
  refine y_is st F S ?_
  walk_at "ys"
  rw [← List.map_reverse]
  refine y_sinitG xs.reverse (by rw [List.length_reverse]; omega) (fun _ => ?_) fun z => absurd ho.rev z
  rw [srtI_rev, eS]
  walk_at "ys"
  refine y_seq st st ?_
  rw [decide_eq_true rfl]
  walk_at "ys"
  refine y_sameD 4 _ (by trivial) ?_
  walk_at "ys"
  exact hn st F _ _ _ _ _ _ S rfl rfl rfl

theorem sgX {bs : List Bool} {i : Int} {j : Nat} (e : i = j) (h : j < bs.length) (hl : bs.length ≤ 16777216) : (if bs.length ≤ 16777216 then Option.map (fun c => D.str { cps := #[c] }) (atI (sg bs).cps.toList i) else none) = some (.str (sg [bs[j]])) := by
  subst e
  rw [sgx (by omega) (by omega) hl]
  rfl

/-- a stand's sky and the state of the signs so far -/
def StI (ks : List (Int × Int)) (q : Bool) (m s l : Int) : Prop := (q = true → 0 < s ∧ m = min s (max 1 (ndK ks))) ∧ (q = false → s = 0 ∧ m = l ∧ 0 ≤ l)
theorem sti_step {ks : List (Int × Int)} (hg : Gd 16 120 ks) {q : Bool} {m s l : Int} {c : Bool} {r : List Bool} (hI : StI ks q m s l) (hs : (stS (wl ks) (s, l) (c :: r)).isSome = true) :
    ¬ (c = true ∧ mayO (wl ks) q m < 1) ∧ ∃ s' l', StI ks (!c) (nxO (wl ks) (max 1 (ndK ks)) q m c) s' l' ∧ (stS (wl ks) (s', l') r).isSome = true := by
  have hs : ((st1 (wl ks) (s, l) c).bind fun p => stS (wl ks) p r).isSome = true := hs
  have hv : mayO (wl ks) q m = if 0 < s then wl ks s else l := by
    cases q with
    | true =>
      obtain ⟨a, b⟩ := hI.1 rfl
      rw [if_pos a, b]
      exact wl_need hg (by omega)
    | false =>
      obtain ⟨a, b, _⟩ := hI.2 rfl
      rw [if_neg (by omega)]
      exact b
  cases c with
  | false =>
    have e : st1 (wl ks) (s, l) false = some (s + 1, l) := rfl
    rw [e] at hs
    refine ⟨fun z => by simp at z, s + 1, l, ⟨fun _ => ?_, fun z => by cases z⟩, hs⟩
    show _ ∧ (if q = true then min (m + 1) (max 1 (ndK ks)) else 1) = _
    cases q with
    | true =>
      obtain ⟨a, b⟩ := hI.1 rfl
      rw [if_pos rfl]
      omega
    | false =>
      obtain ⟨a, b, _⟩ := hI.2 rfl
      rw [if_neg (by simp)]
      omega
  | true =>
    by_cases p : 0 < (if 0 < s then wl ks s else l)
    · rw [st1_damp rfl p] at hs
      refine ⟨fun z => by have := z.2; omega, 0, _, ⟨fun z => (by cases z), fun _ => ⟨rfl, ?_, ?_⟩⟩, hs⟩
      · show mayO (wl ks) q m - 1 = _
        rw [hv]
      · omega
    · exfalso
      unfold st1 at hs
      rw [if_neg (by decide)] at hs
      simp only at hs
      rw [if_neg p] at hs
      cases hs

/-- what is asked of each of the two sets -/
def Bkk : M Fl :=
    (evSeq (evIf (tNo (tst (evCall0 6 G_l_odd_right [.e (ev2 dIx (evF 2) (evV 14)), .e (ev2 dIx (evF 3) (evV 14)), .e (evV 9), .e (evV 12), .e (evV 13), .e (evCall0 4 G_l_some_stand [.c 4, .e (evV 9), .e (evV 13), .e (ev2 dIx (ev2 dIx (evF 3) (evV 14)) (ev1 dNeg (vD (.int 1))))])])))
    (evRet (vD (.bl false)))
    evNx)
    (evSeq (evAsg 15 (evTup [.e (evTup [.e (vD (.str "dry")), .e (vD (.int 1))]), .e (evTup [.e (vD (.int 0))])]))
    (evFor (itR2 (vD (.int 1)) (ev2 dAdd (evV 10) (vD (.int 1)))) (.n 16)
    (evSeq (evIf (tNo (tst (evCall0 2 G_l_same [.e (evCall0 4 G_f_next_stand [.e (ev2 dIx (evF 2) (evV 14)), .e (evV 12), .e (evV 15), .e (vD (.str "."))]), .e (evCall0 5 G_l_stand [.e (ev2 dIx (evF 3) (evV 14)), .e (evV 9), .e (evV 13), .e (evV 15), .e (vD (.str "."))])])))
    (evRet (vD (.bl false)))
    evNx)
    (evSeq (evIf (tNo (tst (evCall0 2 G_l_same [.e (evCall0 4 G_f_next_stand [.e (ev2 dIx (evF 2) (evV 14)), .e (evV 12), .e (evV 15), .e (vD (.str "#"))]), .e (evCall0 5 G_l_stand [.e (ev2 dIx (evF 3) (evV 14)), .e (evV 9), .e (evV 13), .e (evV 15), .e (vD (.str "#"))])])))
    (evRet (vD (.bl false)))
    evNx)
    (evIf (tst (ev2 dLt (evV 16) (evV 10)))
    (evAsg 15 (evCall0 5 G_l_stand [.e (ev2 dIx (evF 3) (evV 14)), .e (evV 9), .e (evV 13), .e (evV 15), .e (ev2 dIx (evV 11) (evV 16))]))
    evNx))))))
theorem y_kbody (S0 s5 s6 s7 s8 s15 s16 : Sl) (L M : List D) (x y z k n : Int) (ks : List (Int × Int)) (hg : Gd 16 120 ks) (hkl : ks.length ≤ 1000) (bs : List Bool) (hm : Mem (wl ks) bs) (hn : (bs.length : Int) = n) (n2 : n ≤ 200) (c15 : canSet s15 = true) (c16 : canSet s16 = true)
    (st : List Int) (F : Int) (S : Ste st F) (hL : atI L k = some (Sx st)) (hM : atI M k = some (.lst (st.map .int))) {KF : Fl → List Sl → Prop}
    (h : ∀ (x y z : Int) (s15 s16 : Sl), canSet s15 = true → canSet s16 = true → KF .nx [S0, .un, .dat (.lst L), .dat (.lst M), .cel .own (.lst [.int x, .int y, .int z]), s5, s6, s7, s8, .dat (.lst (kl ks)), .dat (.int n), .dat (Ws bs), .dat (Ci ks), .dat (.int (max 1 (ndK ks))), .dat (.int k), s15, s16, .un]) : Y Bkk [S0, .un, .dat (.lst L), .dat (.lst M), .cel .own (.lst [.int x, .int y, .int z]), s5, s6, s7, s8, .dat (.lst (kl ks)), .dat (.int n), .dat (Ws bs), .dat (Ci ks), .dat (.int (max 1 (ndK ks))), .dat (.int k), s15, s16, .un] KF NX := by
  have hl := S.len
  have nb := ndK_bd hg
  unfold Bkk
  refine Y_cut (J := fun ρ => ∃ x y z : Int, ρ = [S0, .un, .dat (.lst L), .dat (.lst M), .cel .own (.lst [.int x, .int y, .int z]), s5, s6, s7, s8, .dat (.lst (kl ks)), .dat (.int n), .dat (Ws bs), .dat (Ci ks), .dat (.int (max 1 (ndK ks))), .dat (.int k), s15, s16, .un]) ?_ ?_
  · walk_at "ys"
    rw [hL]
    walk_at "ys"
    rw [hM]
    walk_at "ys"
    rw [S.far]
    walk_at "ys"
    refine y_some_stand _ _ _ _ ks hg hkl (by omega) (by omega) F S.fb.1 S.fb.2 fun q m as x1 y1 z1 m0 ha => ?_
    walk_at "ys"
    refine y_odd st F S ks hg q m m0 as ha ?_
    walk_at "ys"
    exact ⟨_, _, _, rfl⟩
  rintro _ ⟨x, y, z, rfl⟩
  refine Y_cut (J := fun ρ => ρ = [S0, .un, .dat (.lst L), .dat (.lst M), .cel .own (.lst [.int x, .int y, .int z]), s5, s6, s7, s8, .dat (.lst (kl ks)), .dat (.int n), .dat (Ws bs), .dat (Ci ks), .dat (.int (max 1 (ndK ks))), .dat (.int k), .dat (stN true 1 [0]), s16, .un]) ?_ ?_
  · walk_at "ys"
    exact ⟨c15, rfl⟩
  rintro _ rfl
  have hd := hm.1
  have nl := hd.len
  have h0 : (stS (wl ks) (1, 0) (bs.drop 1)).isSome = true := by
    obtain ⟨hd, q, e⟩ := hm
    cases bs with
    | nil => cases hd
    | cons b bs =>
      cases hd
      have e : stS (wl ks) (1, 0) bs = some q := e
      rw [List.drop_succ_cons, List.drop_zero, e]
      rfl
  walk_at "ys"
  refine ⟨by omega, ?_⟩
  refine Y_loop (I := fun r ρ => ∃ (i : Nat) (q : Bool) (m : Int) (as : List Int) (s16 : Sl), r = (rngD 1 (n + 1 - 1).toNat).drop i ∧ i ≤ (n + 1 - 1).toNat ∧ canSet s16 = true ∧ 0 ≤ m ∧ as.length ≤ i + 1 ∧ ((i : Int) < n → ∃ s l, StI ks q m s l ∧ (stS (wl ks) (s, l) (bs.drop (i + 1))).isSome = true) ∧ ρ = [S0, .un, .dat (.lst L), .dat (.lst M), .cel .own (.lst [.int x, .int y, .int z]), s5, s6, s7, s8, .dat (.lst (kl ks)), .dat (.int n), .dat (Ws bs), .dat (Ci ks), .dat (.int (max 1 (ndK ks))), .dat (.int k), .dat (stN q m as), s16, .un])
    ⟨0, true, 1, [0], s16, rfl, Nat.zero_le _, c16, by omega, Nat.le_refl _, fun _ => ⟨1, 0, ⟨fun _ => ⟨by omega, by omega⟩, fun z => by cases z⟩, h0⟩, rfl⟩ (fun o r ρ => ?_) (fun ρ => ?_)
  · rintro ⟨i, q, m, as, s16, er, il, c16, m0, al, go, rfl⟩
    obtain ⟨hi, rfl, rfl⟩ := rngc_lt er
    refine Y_tgN rfl c16 ?_
    refine Y_cut (J := fun ρ => ρ = [S0, .un, .dat (.lst L), .dat (.lst M), .cel .own (.lst [.int x, .int y, .int z]), s5, s6, s7, s8, .dat (.lst (kl ks)), .dat (.int n), .dat (Ws bs), .dat (Ci ks), .dat (.int (max 1 (ndK ks))), .dat (.int k), .dat (stN q m as), .dat (.int (1 + (i : Int))), .un]) ?_ ?_
    · by_cases v : false = true ∧ mayO (wl ks) q m < 1
      · walk_at "ys"
        rw [hL]
        walk_at "ys"
        refine y_nstO ks hg st F S.far (by omega) q m m0 false as (by omega) (fun y => absurd v y) fun _ => ?_
        walk_at "ys"
        rw [hM]
        walk_at "ys"
        refine y_lstO ks (fun k hk => by have := (hg k hk).1; omega) _ st F S.far q m false as (by omega) (fun y => absurd v y) fun _ => ?_
        walk_at "ys"
        refine y_sameD 4 _ (by trivial) ?_
        walk_at "ys"
      · walk_at "ys"
        rw [hL]
        walk_at "ys"
        refine y_nstO ks hg st F S.far (by omega) q m m0 false as (by omega) (fun _ => ?_) fun y => absurd y v
        walk_at "ys"
        rw [hM]
        walk_at "ys"
        refine y_lstO ks (fun k hk => by have := (hg k hk).1; omega) _ st F S.far q m false as (by omega) (fun _ => ?_) fun y => absurd y v
        walk_at "ys"
        refine y_sameD 4 _ (sok_st _ _ _ (by have := nag_len (st := st) (F := F) (c := false) (as := as); omega) 1) ?_
        walk_at "ys"
    rintro _ rfl
    refine Y_cut (J := fun ρ => ρ = [S0, .un, .dat (.lst L), .dat (.lst M), .cel .own (.lst [.int x, .int y, .int z]), s5, s6, s7, s8, .dat (.lst (kl ks)), .dat (.int n), .dat (Ws bs), .dat (Ci ks), .dat (.int (max 1 (ndK ks))), .dat (.int k), .dat (stN q m as), .dat (.int (1 + (i : Int))), .un]) ?_ ?_
    · by_cases v : true = true ∧ mayO (wl ks) q m < 1
      · walk_at "ys"
        rw [hL]
        walk_at "ys"
        refine y_nstO ks hg st F S.far (by omega) q m m0 true as (by omega) (fun y => absurd v y) fun _ => ?_
        walk_at "ys"
        rw [hM]
        walk_at "ys"
        refine y_lstO ks (fun k hk => by have := (hg k hk).1; omega) _ st F S.far q m true as (by omega) (fun y => absurd v y) fun _ => ?_
        walk_at "ys"
        refine y_sameD 4 _ (by trivial) ?_
        walk_at "ys"
      · walk_at "ys"
        rw [hL]
        walk_at "ys"
        refine y_nstO ks hg st F S.far (by omega) q m m0 true as (by omega) (fun _ => ?_) fun y => absurd y v
        walk_at "ys"
        rw [hM]
        walk_at "ys"
        refine y_lstO ks (fun k hk => by have := (hg k hk).1; omega) _ st F S.far q m true as (by omega) (fun _ => ?_) fun y => absurd y v
        walk_at "ys"
        refine y_sameD 4 _ (sok_st _ _ _ (by have := nag_len (st := st) (F := F) (c := true) (as := as); omega) 1) ?_
        walk_at "ys"
    rintro _ rfl
    by_cases c : 1 + (i : Int) < n
    · obtain ⟨s, l, hI, hs⟩ := go (by omega)
      have hi2 : i + 1 < bs.length := by omega
      rw [List.drop_eq_getElem_cons hi2] at hs
      obtain ⟨nv, s', l', hI', hs'⟩ := sti_step hg hI hs
      generalize hc : bs[i + 1] = c1 at nv hI' hs'
      have ec : (1 + (i : Int)).toNat = i + 1 := by omega
      walk_at "ys"
      rw [hM]
      walk_at "ys"
      rw [if_pos c, sgX (i := 1 + (i : Int)) (j := i + 1) (by omega) hi2 (by omega), hc]
      refine ⟨_, rfl, ?_⟩
      have m1 : 0 ≤ nxO (wl ks) (max 1 (ndK ks)) q m c1 := by
        cases hb : !c1 with
        | true => have := hI'.1 hb; omega
        | false => have := hI'.2 hb; omega
      refine y_lstO ks (fun k hk => by have := (hg k hk).1; omega) _ st F S.far q m c1 as (by omega) (fun _ => ?_) fun y => absurd y nv
      walk_at "ys"
      exact ⟨i + 1, !c1, _, nag st F c1 as, _, rfl, hi, rfl, m1, by have := nag_len (st := st) (F := F) (c := c1) (as := as); omega, fun _ => ⟨s', l', hI', hs'⟩, rfl⟩
    · walk_at "ys"
      rw [if_neg c]
      exact ⟨i + 1, q, m, as, _, rfl, hi, rfl, m0, by omega, fun z => by omega, rfl⟩
  · rintro ⟨i, q, m, as, s16, er, il, c16, m0, al, go, rfl⟩
    exact h _ _ _ _ _ rfl c16

theorem y_fst0 {K : Rv → List Sl → Prop} {X : XC} (h : K (.d (stN true 1 [0])) []) : Y G_f_first_stand [] K X := by
  unfold G_f_first_stand B_f_first_stand
  walk_at "ys"
  exact h
theorem Ste.ok {st : List Int} {F : Int} (S : Ste st F) : Okx st := by
  refine ⟨fun z => ?_, S.bd⟩
  have := S.far
  rw [z] at this
  cases this
theorem Okx.app {s t : List Int} (h : Okx s) (k : Okx t) : Okx (s ++ t) := ⟨fun z => h.1 (List.append_eq_nil_iff.mp z).1, fun x hx => (List.mem_append.mp hx).elim (h.2 x) (k.2 x)⟩
theorem y_law (ns : List Int) {K : Rv → List Sl → Prop} (h : ∀ ρ, K (.d (.bl true)) ρ) : Y G_l_law [.dat (.sq (ns.map D.int))] K NX := by
  unfold G_l_law B_l_law
  rw [Y_run0]
  show Y (evSeq (evPo 1 2 3 4 _ _ Btn) _) [_, .un, .un, .un, .un, .un, .un, .un, .un, .un, .un, .un, .un, .un, .un, .un, .un, .un] _ _
  refine Y_cutR (J := fun ρ => ∃ (s t : List Int) (F G x y z : Int) (s5 s6 s7 : Sl), (Ste s F ∧ Ste t G) ∧ ρ = [.dat (.sq (ns.map D.int)), .un, .cel .own (.lst [Sx s, Sx t]), .cel .own (.lst [.lst (s.map .int), .lst (t.map .int)]), .cel .own (.lst [.int x, .int y, .int z]), s5, s6, s7, .un, .un, .un, .un, .un, .un, .un, .un, .un, .un]) ?_ ?_
  · refine Y_po (by decide) ?_
    walk_at "ys"
    refine y_cell ns 0 (by omega) fun c => ?_
    walk_at "ys"
    refine y_pool c fun x y z => ?_
    walk_at "ys"
    refine ⟨_, rfl, ?_⟩
    walk_at "ys"
    refine y_cell ns 1 (by omega) fun c => ?_
    walk_at "ys"
    refine y_pool c fun x y z => ?_
    walk_at "ys"
    refine ⟨_, rfl, ?_⟩
    refine Y_poOne ?_
    walk_at "ys"
    refine y_turn _ [] [] (by decide) (by decide) _ _ _ _ _ _ rfl rfl rfl (fun ρ => ?_) fun s F x y z s5 s6 s7 hs c5 c6 c7 => ?_
    · exact h _
    · refine Y_poLast ?_
      walk_at "ys"
      refine y_turn _ _ _ (by simp) (by simp) _ _ _ _ _ _ c5 c6 c7 (fun ρ => ?_) fun t G x y z s5 s6 s7 ht c5 c6 c7 => ?_
      · exact h _
      · exact ⟨s, t, F, G, _, _, _, _, _, _, ⟨hs, ht⟩, rfl⟩
  rintro _ ⟨s, t, F, G, x, y, z, s5, s6, s7, ⟨hs, ht⟩, rfl⟩
  have o3 := hs.ok.app ht.ok
  obtain ⟨F3, h3⟩ := ste_of o3
  have e3 : (iv 1 8).filter (fun k => decide (k ∈ s ∨ k ∈ t)) = srtI (s ++ t) := (List.filter_congr fun k _ => by rw [decide_eq_decide, List.mem_append]).trans (steps_of o3)
  have sl := hs.len
  have tl := ht.len
  refine Y_cutR (J := fun ρ => ρ = [.dat (.sq (ns.map D.int)), .un, .cel .own (.lst [Sx s, Sx t]), .dat (.lst [.lst (s.map .int), .lst (t.map .int)]), .cel .own (.lst [.int x, .int y, .int z]), s5, s6, s7, .dat (.lst ((srtI (s ++ t)).map .int)), .un, .un, .un, .un, .un, .un, .un, .un, .un]) ?_ ?_
  · walk_at "ys"
    refine ⟨by omega, ?_⟩
    have r8 : (9 - 1 : Int).toNat = 8 := rfl
    rw [r8, rng8]
    refine Y_lcI (I := fun r acc ρ => ∃ (dn rest : List Int) (s3 : Sl), r = rest.map .int ∧ iv 1 8 = dn ++ rest ∧ acc = (dn.filter fun k => decide (k ∈ s ∨ k ∈ t)).map .int ∧ dn.length ≤ 8 ∧ (s3 = .cel .own (.lst [.lst (s.map .int), .lst (t.map .int)]) ∧ rest ≠ [] ∨ s3 = .dat (.lst [.lst (s.map .int), .lst (t.map .int)])) ∧ ∃ s17 : Sl, canSet s17 = true ∧ ρ = [.dat (.sq (ns.map D.int)), .un, .cel .own (.lst [Sx s, Sx t]), s3, .cel .own (.lst [.int x, .int y, .int z]), s5, s6, s7, .un, .un, .un, .un, .un, .un, .un, .un, .un, s17]) ⟨[], iv 1 8, _, rfl, rfl, rfl, Nat.zero_le _, .inl ⟨rfl, by simp [iv]⟩, .un, rfl, rfl⟩ (fun o r acc ρ => ?_) (fun acc ρ => ?_)
    · rintro ⟨dn, rest, s3, er, ei, rfl, dl, h3, s17, c17, rfl⟩
      cases rest with
      | nil => cases er
      | cons i rest =>
        cases er
        have fl := List.length_filter_le (fun k => decide (k ∈ s ∨ k ∈ t)) dn
        have il : dn.length + 1 ≤ 8 := by
          have := congrArg List.length ei
          rw [List.length_append, List.length_cons] at this
          have h8 : (iv 1 8).length = 8 := rfl
          omega
        refine ⟨by rw [List.length_map]; omega, ?_⟩
        refine Y_tgN rfl c17 ?_
        have fa : ((dn ++ [i]).filter fun k => decide (k ∈ s ∨ k ∈ t)) = (dn.filter fun k => decide (k ∈ s ∨ k ∈ t)) ++ if i ∈ s ∨ i ∈ t then [i] else [] := by
          rw [List.filter_append, List.filter_cons, List.filter_nil]
          congr 1
          by_cases q : i ∈ s ∨ i ∈ t
          · rw [if_pos q, decide_eq_true q, if_pos rfl]
          · rw [if_neg q, decide_eq_false q, if_neg (by simp)]
        have ei2 : iv 1 8 = (dn ++ [i]) ++ rest := by rw [ei, List.append_assoc]; rfl
        have dl2 : (dn ++ [i]).length ≤ 8 := by rw [List.length_append]; exact il
        have yes : (i ∈ s ∨ i ∈ t) → (dn.filter fun k => decide (k ∈ s ∨ k ∈ t)).map D.int ++ [.int i] = ((dn ++ [i]).filter fun k => decide (k ∈ s ∨ k ∈ t)).map D.int := fun q => by rw [fa, if_pos q, List.map_append]; rfl
        have no : ¬ (i ∈ s ∨ i ∈ t) → (dn.filter fun k => decide (k ∈ s ∨ k ∈ t)).map D.int = ((dn ++ [i]).filter fun k => decide (k ∈ s ∨ k ∈ t)).map D.int := fun q => by rw [fa, if_neg q, List.append_nil]
        rcases h3 with ⟨rfl, _⟩ | rfl
        · walk_at "ys"
          by_cases q1 : i ∈ s
          · rw [if_pos q1]
            exact ⟨dn ++ [i], rest, _, rfl, ei2, yes (.inl q1), dl2, .inr rfl, .un, rfl, rfl⟩
          · rw [if_neg q1]
            by_cases q2 : i ∈ t
            · rw [if_pos q2]
              exact ⟨dn ++ [i], rest, _, rfl, ei2, yes (.inr q2), dl2, .inr rfl, .un, rfl, rfl⟩
            · rw [if_neg q2]
              exact ⟨dn ++ [i], rest, _, rfl, ei2, no (fun z => z.elim q1 q2), dl2, .inr rfl, .un, rfl, rfl⟩
        · walk_at "ys"
          by_cases q1 : i ∈ s
          · rw [if_pos q1]
            exact ⟨dn ++ [i], rest, _, rfl, ei2, yes (.inl q1), dl2, .inr rfl, .un, rfl, rfl⟩
          · rw [if_neg q1]
            by_cases q2 : i ∈ t
            · rw [if_pos q2]
              exact ⟨dn ++ [i], rest, _, rfl, ei2, yes (.inr q2), dl2, .inr rfl, .un, rfl, rfl⟩
            · rw [if_neg q2]
              exact ⟨dn ++ [i], rest, _, rfl, ei2, no (fun z => z.elim q1 q2), dl2, .inr rfl, .un, rfl, rfl⟩
    · rintro ⟨dn, rest, s3, er, ei, rfl, dl, h3, s17, c17, rfl⟩
      have er : rest = [] := by cases rest with | nil => rfl | cons => cases er
      subst er
      rw [List.append_nil] at ei
      subst ei
      rw [e3]
      rcases h3 with z | rfl
      · exact absurd rfl z.2
      · walk_at "ys"
  rintro _ rfl
  generalize eU : srtI (s ++ t) = u at h3 e3 ⊢
  refine Y_cutR (J := fun ρ => ρ = [.dat (.sq (ns.map D.int)), .un, .dat (.lst [Sx s, Sx t]), .dat (.lst [.lst (s.map .int), .lst (t.map .int)]), .cel .own (.lst [.int x, .int y, .int z]), s5, s6, s7, .dat (.lst (u.map .int)), .un, .un, .un, .un, .un, .un, .un, .un, .un]) ?_ ?_
  · walk_at "ys"
    refine y_sor s t (by omega) o3 ?_
    rw [eU]
    walk_at "ys"
    refine y_is u F3 h3 ?_
    walk_at "ys"
    refine y_seq s t ?_
    walk_at "ys"
    refine y_sameD 4 _ (by trivial) ?_
    walk_at "ys"
  rintro _ rfl
  refine Y_cutR (J := fun ρ => ∃ x y z : Int, ρ = [.dat (.sq (ns.map D.int)), .un, .dat (.lst [Sx s, Sx t]), .dat (.lst [.lst (s.map .int), .lst (t.map .int)]), .cel .own (.lst [.int x, .int y, .int z]), s5, s6, s7, .dat (.lst (u.map .int)), .un, .un, .un, .un, .un, .un, .un, .un, .un]) ?_ ?_
  · walk_at "ys"
    refine y_cell ns 2 (by omega) fun c => ?_
    walk_at "ys"
    refine y_pool c fun x y z => ?_
    walk_at "ys"
    exact ⟨_, _, _, rfl⟩
  rintro _ ⟨x, y, z, rfl⟩
  refine Y_cutR (J := fun ρ => ∃ x y z : Int, ρ = [.dat (.sq (ns.map D.int)), .un, .dat (.lst [Sx s, Sx t]), .dat (.lst [.lst (s.map .int), .lst (t.map .int)]), .cel .own (.lst [.int x, .int y, .int z]), s5, s6, s7, .dat (.lst (u.map .int)), .un, .un, .un, .un, .un, .un, .un, .un, .un]) ?_ ?_
  · walk_at "ys"
    refine y_ab _ _ _ 12 (by omega) (by omega) fun a b x1 y1 z1 a1 a2 a3 => ?_
    walk_at "ys"
    refine y_of a b a1 a2 (by omega) ?_
    walk_at "ys"
    refine y_fst0 ?_
    walk_at "ys"
    refine y_sameD 4 _ (sok_st _ _ _ (by simp) 1) ?_
    walk_at "ys"
    exact ⟨_, _, _, rfl⟩
  rintro _ ⟨x, y, z, rfl⟩
  refine Y_cutR (J := fun ρ => ∃ (ks : List (Int × Int)) (x y z : Int), (Gd 16 120 ks ∧ ks.length ≤ 12) ∧ ρ = [.dat (.sq (ns.map D.int)), .un, .dat (.lst [Sx s, Sx t]), .dat (.lst [.lst (s.map .int), .lst (t.map .int)]), .cel .own (.lst [.int x, .int y, .int z]), s5, s6, s7, .dat (.lst (u.map .int)), .dat (.lst (kl ks)), .un, .un, .un, .un, .un, .un, .un, .un]) ?_ ?_
  · walk_at "ys"
    refine y_kinds _ _ _ 3 8 12 (by omega) (by omega) (by omega) (by omega) (by omega) (by omega) fun ks x1 y1 z1 hg hl => ?_
    walk_at "ys"
    exact ⟨ks, _, _, _, ⟨fun k hk => by have := hg k hk; omega, by omega⟩, rfl⟩
  rintro _ ⟨ks, x, y, z, ⟨hg, hkl⟩, rfl⟩
  refine Y_cutR (J := fun ρ => ∃ (ks : List (Int × Int)) (x y z : Int), (Gd 16 120 ks ∧ ks.length ≤ 12) ∧ ρ = [.dat (.sq (ns.map D.int)), .un, .dat (.lst [Sx s, Sx t]), .dat (.lst [.lst (s.map .int), .lst (t.map .int)]), .cel .own (.lst [.int x, .int y, .int z]), s5, s6, s7, .dat (.lst (u.map .int)), .dat (.lst (kl ks)), .un, .un, .un, .un, .un, .un, .un, .un]) ?_ ?_
  · walk_at "ys"
    refine y_take _ _ _ _ (by omega) (by omega) fun d x1 y1 z1 d1 d2 => ?_
    walk_at "ys"
    split
    · refine y_kinds _ _ _ 12 16 120 (by omega) (by omega) (by omega) (by omega) (by omega) (by omega) fun ks x1 y1 z1 hg hl => ?_
      walk_at "ys"
      exact ⟨ks, _, _, _, ⟨hg, by omega⟩, rfl⟩
    · exact ⟨ks, _, _, _, ⟨hg, hkl⟩, rfl⟩
  rintro _ ⟨ks, x, y, z, ⟨hg, hkl⟩, rfl⟩
  refine Y_cutR (J := fun ρ => ∃ n x y z : Int, (1 ≤ n ∧ n ≤ 150) ∧ ρ = [.dat (.sq (ns.map D.int)), .un, .dat (.lst [Sx s, Sx t]), .dat (.lst [.lst (s.map .int), .lst (t.map .int)]), .cel .own (.lst [.int x, .int y, .int z]), s5, s6, s7, .dat (.lst (u.map .int)), .dat (.lst (kl ks)), .dat (.int n), .un, .un, .un, .un, .un, .un, .un]) ?_ ?_
  · walk_at "ys"
    refine y_take _ _ _ _ (by omega) (by omega) fun d x1 y1 z1 d1 d2 => ?_
    walk_at "ys"
    exact ⟨_, _, _, _, by omega, rfl⟩
  rintro _ ⟨n, x, y, z, ⟨n1, n2⟩, rfl⟩
  refine Y_cutR (J := fun ρ => ∃ n x y z : Int, (1 ≤ n ∧ n ≤ 150) ∧ ρ = [.dat (.sq (ns.map D.int)), .un, .dat (.lst [Sx s, Sx t]), .dat (.lst [.lst (s.map .int), .lst (t.map .int)]), .cel .own (.lst [.int x, .int y, .int z]), s5, s6, s7, .dat (.lst (u.map .int)), .dat (.lst (kl ks)), .dat (.int n), .un, .un, .un, .un, .un, .un, .un]) ?_ ?_
  · walk_at "ys"
    refine y_take _ _ _ _ (by omega) (by omega) fun d x1 y1 z1 d1 d2 => ?_
    walk_at "ys"
    split
    · refine y_take _ _ _ _ (by omega) (by omega) fun d x1 y1 z1 d3 d4 => ?_
      walk_at "ys"
      exact ⟨_, _, _, _, by omega, rfl⟩
    · exact ⟨_, _, _, _, ⟨n1, n2⟩, rfl⟩
  rintro _ ⟨n, x, y, z, ⟨n1, n2⟩, rfl⟩
  refine Y_cutR (J := fun ρ => ∃ (bs : List Bool) (x y z : Int), (Mem (wl ks) bs ∧ (bs.length : Int) = n) ∧ ρ = [.dat (.sq (ns.map D.int)), .un, .dat (.lst [Sx s, Sx t]), .dat (.lst [.lst (s.map .int), .lst (t.map .int)]), .cel .own (.lst [.int x, .int y, .int z]), s5, s6, s7, .dat (.lst (u.map .int)), .dat (.lst (kl ks)), .dat (.int n), .dat (Ws bs), .un, .un, .un, .un, .un, .un]) ?_ ?_
  · walk_at "ys"
    refine y_signs_of _ _ _ ks n (fun k hk => by have := (hg k hk).1; omega) n1 (by omega) fun bs x1 y1 z1 hm hb => ?_
    walk_at "ys"
    exact ⟨bs, _, _, _, ⟨hm, hb⟩, rfl⟩
  rintro _ ⟨bs, x, y, z, ⟨hm, hb⟩, rfl⟩
  refine Y_cutR (J := fun ρ => ρ = [.dat (.sq (ns.map D.int)), .un, .dat (.lst [Sx s, Sx t]), .dat (.lst [.lst (s.map .int), .lst (t.map .int)]), .cel .own (.lst [.int x, .int y, .int z]), s5, s6, s7, .dat (.lst (u.map .int)), .dat (.lst (kl ks)), .dat (.int n), .dat (Ws bs), .dat (Ci ks), .un, .un, .un, .un, .un]) ?_ ?_
  · walk_at "ys"
    refine y_clim ks hg (by omega) ?_
    walk_at "ys"
  rintro _ rfl
  refine Y_cutR (J := fun ρ => ρ = [.dat (.sq (ns.map D.int)), .un, .dat (.lst [Sx s, Sx t]), .dat (.lst [.lst (s.map .int), .lst (t.map .int)]), .cel .own (.lst [.int x, .int y, .int z]), s5, s6, s7, .dat (.lst (u.map .int)), .dat (.lst (kl ks)), .dat (.int n), .dat (Ws bs), .dat (Ci ks), .dat (.int (max 1 (ndK ks))), .un, .un, .un, .un]) ?_ ?_
  · walk_at "ys"
    refine y_lneed ks hg ?_
    walk_at "ys"
  rintro _ rfl
  show Y (evSeq (evFor _ _ Bkk) _) _ _ _
  refine Y_cutR (J := fun ρ => ∃ (x y z : Int) (s14 s15 s16 : Sl), ρ = [.dat (.sq (ns.map D.int)), .un, .dat (.lst [Sx s, Sx t]), .dat (.lst [.lst (s.map .int), .lst (t.map .int)]), .cel .own (.lst [.int x, .int y, .int z]), s5, s6, s7, .dat (.lst (u.map .int)), .dat (.lst (kl ks)), .dat (.int n), .dat (Ws bs), .dat (Ci ks), .dat (.int (max 1 (ndK ks))), s14, s15, s16, .un]) ?_ ?_
  · walk_at "ys"
    refine ⟨by omega, ?_⟩
    have r2 : Int.toNat 2 = 2 := rfl
    rw [r2]
    refine Y_loop (I := fun r ρ => ∃ (i : Nat) (x y z : Int) (s14 s15 s16 : Sl), r = (rngD 0 2).drop i ∧ i ≤ 2 ∧ canSet s14 = true ∧ canSet s15 = true ∧ canSet s16 = true ∧ ρ = [.dat (.sq (ns.map D.int)), .un, .dat (.lst [Sx s, Sx t]), .dat (.lst [.lst (s.map .int), .lst (t.map .int)]), .cel .own (.lst [.int x, .int y, .int z]), s5, s6, s7, .dat (.lst (u.map .int)), .dat (.lst (kl ks)), .dat (.int n), .dat (Ws bs), .dat (Ci ks), .dat (.int (max 1 (ndK ks))), s14, s15, s16, .un]) ⟨0, _, _, _, .un, .un, .un, rfl, Nat.zero_le _, rfl, rfl, rfl, rfl⟩ (fun o r ρ => ?_) (fun ρ => ?_)
    · rintro ⟨i, x, y, z, s14, s15, s16, er, il, c14, c15, c16, rfl⟩
      obtain ⟨hi, rfl, rfl⟩ := rngc_lt er
      refine Y_tgN rfl c14 ?_
      rcases (show i = 0 ∨ i = 1 by omega) with rfl | rfl
      · exact y_kbody _ _ _ _ _ s15 s16 _ _ x y z _ n ks hg (by omega) bs hm hb (by omega) c15 c16 s F hs rfl rfl fun x y z s15 s16 c15 c16 => ⟨1, x, y, z, _, s15, s16, rfl, by omega, rfl, c15, c16, rfl⟩
      · exact y_kbody _ _ _ _ _ s15 s16 _ _ x y z _ n ks hg (by omega) bs hm hb (by omega) c15 c16 t G ht rfl rfl fun x y z s15 s16 c15 c16 => ⟨2, x, y, z, _, s15, s16, rfl, by omega, rfl, c15, c16, rfl⟩
    · rintro ⟨i, x, y, z, s14, s15, s16, er, il, c14, c15, c16, rfl⟩
      exact ⟨x, y, z, s14, s15, s16, rfl⟩
  rintro _ ⟨x, y, z, s14, s15, s16, rfl⟩
  walk_at "ys"
  refine y_is s F hs ?_
  walk_at "ys"
  refine y_is t G ht ?_
  walk_at "ys"
  exact h _
theorem law_pure (ns : List Int) (_ : ns.length ≤ 63) : ∃ ρ, G_l_law [.dat (.sq (ns.map D.int))] = some (.ok (.d (.bl true)), ρ) := by
  obtain ⟨r, ρ, e, k⟩ := (y_law ns (K := fun r _ => r = .d (.bl true)) fun _ => rfl).mk
  subst k
  exact ⟨ρ, e⟩

end DP
namespace DP
open PySem PySem.Spec PyProof.Rows L2 PL
set_option maxHeartbeats 3900000
set_option exponentiation.threshold 20000
section
variable {P : Program} {w : World} {K : PySem.W.Frag} {mg : Str → Option Value} {base : Heap} {ad : Cl → Addr}
theorem ok_f_check_kind {f : Addr} {fd : FuncData} (F : L2.Fun K "check_kind" "check_kind" s_f_check_kind f fd)
    (T_BadKind : S_BadKind K mg (ad .BadKind))
    (g_MOST_RUN : ∃ u, mg "MOST_RUN" = some u ∧ RelV (.int 120) u)
    (g_MOST_SPELL : ∃ u, mg "MOST_SPELL" = some u ∧ RelV (.int 16) u) :
    FnOk P w K mg base (L2.CX P w) 1 f fd ["w", "g"] (spP K ad 2 G_f_check_kind) :=
  okX (N := N_f_check_kind) (s := B_f_check_kind) F sc_f_check_kind rfl rfl fun cdv A outer s H E hr =>
    (ss_1 (s_if (PW.pt (pp_woo (pp_tno (pp_tch2 op_le op_le o_le o_le (pp_c pe_int) (pp_v 0 (pv 0)) (pp_c (C8.pe_gc (by rfl) g_MOST_SPELL)))) (pw_or1 (pp_tno (pp_tch2 op_le op_le o_le o_le (pp_c pe_int) (pp_v 1 (pv 1)) (pp_c (C8.pe_gc (by rfl) g_MOST_RUN)))))))
    (ss_1 (s_raise1 .BadKind rfl (takes_of rfl rfl rfl rfl) PySem.F.excBase_ValueError T_BadKind.x T_BadKind.mg T_BadKind.kp (raises_own T_BadKind.b T_BadKind.t) rfl (pp_joined (.cons (pp_c pe_str) (.cons (pp_fmt (pp_v 0 (pv 0))) (.cons (pp_c pe_str) (.cons (pp_fmt (pp_v 1 (pv 1))) (.cons (pp_c pe_str) .nil))))))))
    ss_n))

theorem ok_f_check_kinds {f : Addr} {fd : FuncData} (F : L2.Fun K "check_kinds" "check_kinds" s_f_check_kinds f fd)
    (T_BadKind : S_BadKind K mg (ad .BadKind))
    (z_len : mg "len" = none)
    (g_MOST_KINDS : ∃ u, mg "MOST_KINDS" = some u ∧ RelV (.int 300) u)
    {f_f_check_kind : Addr} {fd_f_check_kind : FuncData} (O_f_check_kind : FnOk P w K mg base (L2.CX P w) 1 f_f_check_kind fd_f_check_kind ["w", "g"] (spP K ad 2 G_f_check_kind)) (m_f_check_kind : mg "check_kind" = some (.ref f_f_check_kind)) (k_f_check_kind : PySem.W.keepIn K (.ref f_f_check_kind) = true) (b_f_check_kind : Binds K fd_f_check_kind ["w", "g"] []) :
    FnOk P w K mg base (L2.CX P w) 2 f fd ["kinds"] (spP K ad 1 G_f_check_kinds) :=
  okX (N := N_f_check_kinds) (s := B_f_check_kinds) F sc_f_check_kinds rfl rfl fun cdv A outer s H E hr =>
    (ss_c (s_if (pp_tcmp op_gt o_gt (pp_B ob_len (c_lenA rfl) (by rfl) z_len (by decide +kernel) (pd_c (pp_v 0 (pv 0)) pd_n)) (pp_c (C8.pe_gc (by rfl) g_MOST_KINDS)) (nomark _))
    (ss_1 (s_raise1 .BadKind rfl (takes_of rfl rfl rfl rfl) PySem.F.excBase_ValueError T_BadKind.x T_BadKind.mg T_BadKind.kp (raises_own T_BadKind.b T_BadKind.t) rfl (pp_joined (.cons (pp_fmt (pp_B ob_len (c_lenA rfl) (by rfl) z_len (by decide +kernel) (pd_c (pp_v 0 (pv 0)) pd_n))) (.cons (pp_c pe_str) .nil)))))
    ss_n)
    (ss_1 (s_for (passes_of rfl) rfl (pi_l rfl (pp_v 0 (pv 0))) (g_t rfl rfl (gs_c (g_n (i := 1) sc_f_check_kinds.nd rfl (by first | exact Or.inl rfl | exact Or.inr rfl)) (gs_c (g_n (i := 2) sc_f_check_kinds.nd rfl (by first | exact Or.inl rfl | exact Or.inr rfl)) gs_n)))
    (ss_1 (s_ex (pp_callS O_f_check_kind (takes_of rfl rfl rfl rfl) (hr.mono (by decide)) (by rfl) m_f_check_kind k_f_check_kind b_f_check_kind (pq_c (pp_v 1 (pv 1)) (pq_c (pp_v 2 (pv 2)) pq_n))))))))

theorem ok_f_plain_list {f : Addr} {fd : FuncData} (F : L2.Fun K "plain_list" "plain_list" s_f_plain_list f fd)
    (z_min : mg "min" = none)
    (z_sorted : mg "sorted" = none) :
    FnOk P w K mg base CX0 1 f fd ["kinds"] (spP K ad 1 G_f_plain_list) :=
  ok0 (N := N_f_plain_list) (s := B_f_plain_list) F sc_f_plain_list rfl rfl fun cdv A outer s H E hr =>
    (ss_c (s_setC (i := 1) sc_f_plain_list.nd rfl (by first | exact Or.inl rfl | exact Or.inr rfl) pp_dnew)
    (ss_c (s_for PassesOwn.never rfl (pi_l rfl (pp_v 0 (pv 0))) (g_t rfl rfl (gs_c (g_n (i := 2) sc_f_plain_list.nd rfl (by first | exact Or.inl rfl | exact Or.inr rfl)) (gs_c (g_n (i := 3) sc_f_plain_list.nd rfl (by first | exact Or.inl rfl | exact Or.inr rfl)) gs_n)))
    (ss_1 (s_dput 1 (hu_of hr) (pv 1) (pp_v 2 (pv 2)) (pp_B ob_min2 (OW.c_min2 rfl) (by rfl) z_min (by decide +kernel) (pd_c (pp_v 3 (pv 3)) (pd_c (pp_dget2 1 (hu_of hr) (pv 1) (pp_v 2 (pv 2)) (pp_v 3 (pv 3)) ⟨by rfl, by rfl, by rfl, by rfl⟩) pd_n))))))
    (ss_c (s_setC (i := 4) sc_f_plain_list.nd rfl (by first | exact Or.inl rfl | exact Or.inr rfl) (pp_lst pd_n))
    (ss_c (s_for PassesOwn.never rfl (pi_l rfl (pp_sortDR 1 rfl (by rfl) z_sorted (pv 1))) (g_n (i := 2) sc_f_plain_list.nd rfl (by first | exact Or.inl rfl | exact Or.inr rfl))
    (ss_1 (s_if (PW.pt (pp_woo (look_b 4 (pp_tno (pp_ttr rfl (pp_v 4 (pv 4))))) (pw_or1 (pp_tcmp op_lt o_lt (pp_dget 1 (hu_of hr) (pv 1) (pp_v 2 (pv 2)) (fun _ _ => rfl)) (pp_ix rfl (look_v 4 (pp_ix rfl (pp_v 4 (pv 4)) (pp_1 un_neg o_neg (pp_c pe_int)) (fun _ _ => rfl))) (pp_c pe_int) (fun _ _ => rfl)) (nomark _)))))
    (ss_1 (s_ex (pp_bmL 4 rfl ol_app PySem.F.plainAttrs_list PySem.F.slot_list_append PySem.F.type_list_append mt_append (pv 4) (pd_c (pp_tup (pd_c (pp_v 2 (pv 2)) (pd_c (pp_dget 1 (hu_of hr) (pv 1) (pp_v 2 (pv 2)) (fun _ _ => rfl)) pd_n))) pd_n))))
    ss_n)))
    (ss_1 (s_ret (pp_rev rfl (pp_f 4 (pv 4)))))))))

theorem ok_Climate_init {f : Addr} {fd : FuncData} (F : L2.Fun K "__init__" "Climate.__init__" s_Climate_init f fd)
    (T_Climate : S_Climate K mg (ad .Climate))
    (z_tuple : mg "tuple" = none)
    {f_f_check_kinds : Addr} {fd_f_check_kinds : FuncData} (O_f_check_kinds : FnOk P w K mg base (L2.CX P w) 2 f_f_check_kinds fd_f_check_kinds ["kinds"] (spP K ad 1 G_f_check_kinds)) (m_f_check_kinds : mg "check_kinds" = some (.ref f_f_check_kinds)) (k_f_check_kinds : PySem.W.keepIn K (.ref f_f_check_kinds) = true) (b_f_check_kinds : Binds K fd_f_check_kinds ["kinds"] [])
    {f_f_plain_list : Addr} {fd_f_plain_list : FuncData} (O_f_plain_list : FnOk P w K mg base CX0 1 f_f_plain_list fd_f_plain_list ["kinds"] (spP K ad 1 G_f_plain_list)) (m_f_plain_list : mg "plain_list" = some (.ref f_f_plain_list)) (k_f_plain_list : PySem.W.keepIn K (.ref f_f_plain_list) = true) (b_f_plain_list : Binds K fd_f_plain_list ["kinds"] []) :
    FnOk P w K mg base (L2.CX P w) 3 f fd ["self", "kinds"] (spP K ad 2 G_Climate_init) :=
  okX (N := N_Climate_init) (s := B_Climate_init) F sc_Climate_init rfl rfl fun cdv A outer s H E hr =>
    (ss_c (s_ex (pp_callS O_f_check_kinds (takes_of rfl rfl rfl rfl) (hr.mono (by decide)) (by rfl) m_f_check_kinds k_f_check_kinds b_f_check_kinds (pq_c (pp_v 1 (pv 1)) pq_n)))
    (ss_1 (s_fld .Climate 0 rfl T_Climate.cl T_Climate.n_kinds (pv 0) (pp_T ob_tup (c_tupA rfl) (by rfl) z_tuple (by decide +kernel) (pd_c (pp_call O_f_plain_list (hr.mono (by decide)) (by rfl) m_f_plain_list k_f_plain_list b_f_plain_list .nil pass0 (pq_c (pp_v 1 (pv 1)) pq_n) .nil) pd_n)))))

theorem ok_StepSet_eq {f : Addr} {fd : FuncData} (F : L2.Fun K "__eq__" "StepSet.__eq__" s_StepSet_eq f fd)
    (T_StepSet : S_StepSet K mg (ad .StepSet))
    (z_isinstance : mg "isinstance" = none)
    (kit_NoneType_StepSet : PySem.W.kitOne K (.type "NoneType") (.ref (ad .StepSet)) = some false)
    (kit_StepSet_StepSet : PySem.W.kitOne K (.ref (ad .StepSet)) (.ref (ad .StepSet)) = some true) :
    FnOk P w K mg base CX0 1 f fd ["self", "other"] (spP K ad 2 G_StepSet_eq) :=
  ok0 (N := N_StepSet_eq) (s := B_StepSet_eq) F sc_StepSet_eq rfl rfl fun cdv A outer s H E hr =>
    (ss_1 (s_ret (pp_van (pp_isi rfl (.o kit_StepSet_StepSet T_StepSet.ct (.b kit_NoneType_StepSet .nil)) (.own _) (by rfl) z_isinstance (pp_v 1 (pv 1)) (C8.pe_gc (v := .ref (ad .StepSet)) (by rfl) ⟨_, T_StepSet.mg, rfl⟩)) (pe_one (pp_cmp (op_eqB hr.units) o_eq (pp_fld .StepSet 0 rfl T_StepSet.cl T_StepSet.n_steps (pp_v 0 (pv 0))) (pp_fld .StepSet 0 rfl T_StepSet.cl T_StepSet.n_steps (pp_v 1 (pv 1))) (nomark _))))))

theorem ok_StepSet_init {f : Addr} {fd : FuncData} (F : L2.Fun K "__init__" "StepSet.__init__" s_StepSet_init f fd)
    (T_BadSteps : S_BadSteps K mg (ad .BadSteps))
    (T_StepSet : S_StepSet K mg (ad .StepSet))
    (z_max : mg "max" = none)
    (z_min : mg "min" = none)
    (z_set : mg "set" = none)
    (z_sorted : mg "sorted" = none)
    (z_tuple : mg "tuple" = none)
    (g_MOST_STEP : ∃ u, mg "MOST_STEP" = some u ∧ RelV (.int 8) u) :
    FnOk P w K mg base (L2.CX P w) 1 f fd ["self", "steps"] (spP K ad 2 G_StepSet_init) :=
  okX (N := N_StepSet_init) (s := B_StepSet_init) F sc_StepSet_init rfl rfl fun cdv A outer s H E hr =>
    (ss_c (s_if (PW.pt (pp_woo (pp_tno (pp_ttr rfl (pp_v 1 (pv 1)))) (pp_woo (pp_tcmp op_lt o_lt (pp_B ob_minL (cr_min rfl) (by rfl) z_min (by decide +kernel) (pd_c (pp_v 1 (pv 1)) pd_n)) (pp_c pe_int) (nomark _)) (pw_or1 (pp_tcmp op_gt o_gt (pp_B ob_maxL (cr_max rfl) (by rfl) z_max (by decide +kernel) (pd_c (pp_v 1 (pv 1)) pd_n)) (pp_c (C8.pe_gc (by rfl) g_MOST_STEP)) (nomark _))))))
    (ss_1 (s_raise1 .BadSteps rfl (takes_of rfl rfl rfl rfl) PySem.F.excBase_ValueError T_BadSteps.x T_BadSteps.mg T_BadSteps.kp (raises_own T_BadSteps.b T_BadSteps.t) rfl (pp_joined (.cons (pp_c pe_str) (.cons (pp_fmt (pp_c (C8.pe_gc (by rfl) g_MOST_STEP))) .nil)))))
    ss_n)
    (ss_1 (s_fld .StepSet 0 rfl T_StepSet.cl T_StepSet.n_steps (pv 0) (pp_T ob_tup (c_tupA rfl) (by rfl) z_tuple (by decide +kernel) (pd_c (pp_srtSt rfl rfl (by rfl) z_sorted (by rfl) z_set (pp_v 1 (pv 1))) pd_n)))))

theorem ok_StepSet_or {f : Addr} {fd : FuncData} (F : L2.Fun K "__or__" "StepSet.__or__" s_StepSet_or f fd)
    (T_StepSet : S_StepSet K mg (ad .StepSet))
    {f_StepSet_init : Addr} {fd_StepSet_init : FuncData} (O_StepSet_init : FnOk P w K mg base (L2.CX P w) 1 f_StepSet_init fd_StepSet_init ["self", "steps"] (spP K ad 2 G_StepSet_init)) (b_StepSet_init : Binds K fd_StepSet_init ["self", "steps"] []) (I_StepSet : Mk K (ad .StepSet) f_StepSet_init) :
    FnOk P w K mg base (L2.CX P w) 3 f fd ["self", "other"] (spP K ad 2 G_StepSet_or) :=
  okX (N := N_StepSet_or) (s := B_StepSet_or) F sc_StepSet_or rfl rfl fun cdv A outer s H E hr =>
    (ss_1 (s_ret (pp_makeS .StepSet I_StepSet O_StepSet_init (takes_of rfl rfl rfl rfl) (hr.mono (by decide)) (by rfl) T_StepSet.mg b_StepSet_init .nil (pq_c (pp_lst (pd_s rfl (pp_fld .StepSet 0 rfl T_StepSet.cl T_StepSet.n_steps (pp_v 0 (pv 0))) (pd_s rfl (pp_fld .StepSet 0 rfl T_StepSet.cl T_StepSet.n_steps (pp_v 1 (pv 1))) pd_n))) pq_n) .nil)))

theorem ok_f_first_stand {f : Addr} {fd : FuncData} (F : L2.Fun K "first_stand" "first_stand" s_f_first_stand f fd)
    (g_FIRST_SKY : ∃ a, mg "FIRST_SKY" = some (.ref a) ∧ KTup K a [.str "dry", .int 1]) :
    FnOk P w K mg base CX0 1 f fd [] (spP K ad 0 G_f_first_stand) :=
  ok0 (N := N_f_first_stand) (s := B_f_first_stand) F sc_f_first_stand rfl rfl fun cdv A outer s H E hr =>
    (ss_1 (s_ret (pp_tup (pd_c (pp_gT rfl (by rfl) g_FIRST_SKY) (pd_c (pp_tup (pd_c (pp_c pe_int) pd_n)) pd_n)))))

theorem ok_StepSet_contains {f : Addr} {fd : FuncData} (F : L2.Fun K "__contains__" "StepSet.__contains__" s_StepSet_contains f fd)
    (T_StepSet : S_StepSet K mg (ad .StepSet)) :
    FnOk P w K mg base CX0 1 f fd ["self", "step"] (spP K ad 2 G_StepSet_contains) :=
  ok0 (N := N_StepSet_contains) (s := B_StepSet_contains) F sc_StepSet_contains rfl rfl fun cdv A outer s H E hr =>
    (ss_1 (s_ret (pp_cmp (op_inB rfl) o_in (pp_v 1 (pv 1)) (pp_fld .StepSet 0 rfl T_StepSet.cl T_StepSet.n_steps (pp_v 0 (pv 0))) (by rfl))))

theorem ok_StepSet_farthest {f : Addr} {fd : FuncData} (F : L2.Fun K "farthest" "StepSet.farthest" s_StepSet_farthest f fd)
    (T_StepSet : S_StepSet K mg (ad .StepSet)) :
    FnOk P w K mg base CX0 1 f fd ["self"] (spP K ad 1 G_StepSet_farthest) :=
  ok0 (N := N_StepSet_farthest) (s := B_StepSet_farthest) F sc_StepSet_farthest rfl rfl fun cdv A outer s H E hr =>
    (ss_1 (s_ret (pp_ix rfl (pp_fld .StepSet 0 rfl T_StepSet.cl T_StepSet.n_steps (pp_v 0 (pv 0))) (pp_1 un_neg o_neg (pp_c pe_int)) (fun _ _ => rfl))))

theorem ok_Climate_longest {f : Addr} {fd : FuncData} (F : L2.Fun K "longest" "Climate.longest" s_Climate_longest f fd)
    (T_Climate : S_Climate K mg (ad .Climate))
    (z_max : mg "max" = none) :
    FnOk P w K mg base CX0 1 f fd ["self", "run"] (spP K ad 2 G_Climate_longest) :=
  ok0 (N := N_Climate_longest) (s := B_Climate_longest) F sc_Climate_longest rfl rfl fun cdv A outer s H E hr =>
    (ss_1 (s_ret (pp_maxD rfl hr.units rfl (by rfl) z_max (pd_c (pp_lc (own := [("w", 2), ("g", 3)]) (by rfl) sc_Climate_longest.nd (pi_t rfl (pp_fld .Climate 0 rfl T_Climate.cl T_Climate.n_kinds (pp_v 0 (pv 0)))) (blkOk_by (N := N_Climate_longest) (sc := defScope s_Climate_longest) (by decide +kernel)) (fun _ _ _ _ _ => (g_t rfl rfl (gs_c (g_n (i := 2) sc_Climate_longest.nd rfl (by first | exact Or.inl rfl | exact Or.inr rfl)) (gs_c (g_n (i := 3) sc_Climate_longest.nd rfl (by first | exact Or.inl rfl | exact Or.inr rfl)) gs_n)))) (fun _ _ _ _ _ => (pts_1 (pp_tcmp op_le o_le (pp_v 3 (pv 3)) (pp_v 1 (pv 1)) (nomark _)))) (fun _ _ _ _ _ => (pp_v 2 (pv 2)))) pd_n) (pp_c pe_int))))

theorem ok_Climate_need {f : Addr} {fd : FuncData} (F : L2.Fun K "need" "Climate.need" s_Climate_need f fd)
    (T_Climate : S_Climate K mg (ad .Climate))
    (z_max : mg "max" = none) :
    FnOk P w K mg base CX0 1 f fd ["self"] (spP K ad 1 G_Climate_need) :=
  ok0 (N := N_Climate_need) (s := B_Climate_need) F sc_Climate_need rfl rfl fun cdv A outer s H E hr =>
    (ss_1 (s_ret (pp_maxD rfl hr.units rfl (by rfl) z_max (pd_c (pp_lc (own := [("w", 1), ("g", 2)]) (by rfl) sc_Climate_need.nd (pi_t rfl (pp_fld .Climate 0 rfl T_Climate.cl T_Climate.n_kinds (pp_v 0 (pv 0)))) (blkOk_by (N := N_Climate_need) (sc := defScope s_Climate_need) (by decide +kernel)) (fun _ _ _ _ _ => (g_t rfl rfl (gs_c (g_n (i := 1) sc_Climate_need.nd rfl (by first | exact Or.inl rfl | exact Or.inr rfl)) (gs_c (g_n (i := 2) sc_Climate_need.nd rfl (by first | exact Or.inl rfl | exact Or.inr rfl)) gs_n)))) (fun _ _ _ _ _ => pts_n) (fun _ _ _ _ _ => (pp_v 2 (pv 2)))) pd_n) (pp_c pe_int))))

theorem ok_f_next_sky {f : Addr} {fd : FuncData} (F : L2.Fun K "next_sky" "next_sky" s_f_next_sky f fd)
    (T_Climate : S_Climate K mg (ad .Climate))
    (z_max : mg "max" = none)
    (z_min : mg "min" = none)
    (g_DAMP_WORD : ∃ u, mg "DAMP_WORD" = some u ∧ RelV (.str "damp") u)
    (g_DRY : ∃ u, mg "DRY" = some u ∧ RelV (.str ".") u)
    (g_DRY_WORD : ∃ u, mg "DRY_WORD" = some u ∧ RelV (.str "dry") u)
    {f_Climate_longest : Addr} {fd_Climate_longest : FuncData} (O_Climate_longest : FnOk P w K mg base CX0 1 f_Climate_longest fd_Climate_longest ["self", "run"] (spP K ad 2 G_Climate_longest)) (b_Climate_longest : Binds K fd_Climate_longest ["self", "run"] []) (M_Climate_longest : Meth K (ad .Climate) "longest" f_Climate_longest)
    {f_Climate_need : Addr} {fd_Climate_need : FuncData} (O_Climate_need : FnOk P w K mg base CX0 1 f_Climate_need fd_Climate_need ["self"] (spP K ad 1 G_Climate_need)) (b_Climate_need : Binds K fd_Climate_need ["self"] []) {p_Climate_need : Addr} (P_Climate_need : PropOf K (ad .Climate) "need" p_Climate_need f_Climate_need) :
    FnOk P w K mg base CX0 3 f fd ["climate", "sky", "sign"] (spP K ad 3 G_f_next_sky) :=
  ok0 (N := N_f_next_sky) (s := B_f_next_sky) F sc_f_next_sky rfl rfl fun cdv A outer s H E hr =>
    (ss_c (s_asgT (pp_v 1 (pv 1)) (g_t rfl rfl (gs_c (g_n (i := 3) sc_f_next_sky.nd rfl (by first | exact Or.inl rfl | exact Or.inr rfl)) (gs_c (g_n (i := 4) sc_f_next_sky.nd rfl (by first | exact Or.inl rfl | exact Or.inr rfl)) gs_n))))
    (ss_c (s_if (pp_tcmp (op_eqB hr.units) o_eq (pp_v 2 (pv 2)) (pp_c (C8.pe_gc (by rfl) g_DRY)) (nomark _))
    (ss_c (s_set (i := 5) sc_f_next_sky.nd rfl (by first | exact Or.inl rfl | exact Or.inr rfl) (pp_vif (pp_tcmp (op_eqB hr.units) o_eq (pp_v 3 (pv 3)) (pp_c (C8.pe_gc (by rfl) g_DRY_WORD)) (nomark _)) (pp_v 4 (pv 4)) (pp_c pe_int)))
    (ss_1 (s_ret (pp_tup (pd_c (pp_c (C8.pe_gc (by rfl) g_DRY_WORD)) (pd_c (pp_B ob_min2 (OW.c_min2 rfl) (by rfl) z_min (by decide +kernel) (pd_c (pp_2 op_add o_add (pp_v 5 (pv 5)) (pp_c pe_int)) (pd_c (pp_B ob_max2 (OW.c_max2 rfl) (by rfl) z_max (by decide +kernel) (pd_c (pp_c pe_int) (pd_c (pp_prop .Climate (pp_v 0 (pv 0)) T_Climate.cl P_Climate_need O_Climate_need (hr.mono (by decide)) b_Climate_need pass0) pd_n))) pd_n))) pd_n))))))
    ss_n)
    (ss_c (s_set (i := 6) sc_f_next_sky.nd rfl (by first | exact Or.inl rfl | exact Or.inr rfl) (pp_vif (pp_tcmp (op_eqB hr.units) o_eq (pp_v 3 (pv 3)) (pp_c (C8.pe_gc (by rfl) g_DRY_WORD)) (nomark _)) (pp_meth .Climate (pp_v 0 (pv 0)) T_Climate.cl M_Climate_longest O_Climate_longest (hr.mono (by decide)) b_Climate_longest pass0 (pq_c (pp_v 4 (pv 4)) pq_n)) (pp_v 4 (pv 4))))
    (ss_c (s_if (pp_tcmp (op_eqB hr.units) o_eq (pp_v 6 (pv 6)) (pp_c pe_int) (nomark _))
    (ss_1 (s_ret (pp_c pe_non)))
    ss_n)
    (ss_1 (s_ret (pp_tup (pd_c (pp_c (C8.pe_gc (by rfl) g_DAMP_WORD)) (pd_c (pp_2 op_sub o_sub (pp_v 6 (pv 6)) (pp_c pe_int)) pd_n)))))))))

theorem ok_f_next_stand {f : Addr} {fd : FuncData} (F : L2.Fun K "next_stand" "next_stand" s_f_next_stand f fd)
    (T_StepSet : S_StepSet K mg (ad .StepSet))
    (z_any : mg "any" = none)
    (z_tuple : mg "tuple" = none)
    (g_DRY : ∃ u, mg "DRY" = some u ∧ RelV (.str ".") u)
    {f_f_next_sky : Addr} {fd_f_next_sky : FuncData} (O_f_next_sky : FnOk P w K mg base CX0 3 f_f_next_sky fd_f_next_sky ["climate", "sky", "sign"] (spP K ad 3 G_f_next_sky)) (m_f_next_sky : mg "next_sky" = some (.ref f_f_next_sky)) (k_f_next_sky : PySem.W.keepIn K (.ref f_f_next_sky) = true) (b_f_next_sky : Binds K fd_f_next_sky ["climate", "sky", "sign"] [])
    {f_StepSet_contains : Addr} {fd_StepSet_contains : FuncData} (O_StepSet_contains : FnOk P w K mg base CX0 1 f_StepSet_contains fd_StepSet_contains ["self", "step"] (spP K ad 2 G_StepSet_contains)) (b_StepSet_contains : Binds K fd_StepSet_contains ["self", "step"] []) (M_StepSet_contains : Meth K (ad .StepSet) "__contains__" f_StepSet_contains)
    {f_StepSet_farthest : Addr} {fd_StepSet_farthest : FuncData} (O_StepSet_farthest : FnOk P w K mg base CX0 1 f_StepSet_farthest fd_StepSet_farthest ["self"] (spP K ad 1 G_StepSet_farthest)) (b_StepSet_farthest : Binds K fd_StepSet_farthest ["self"] []) {p_StepSet_farthest : Addr} (P_StepSet_farthest : PropOf K (ad .StepSet) "farthest" p_StepSet_farthest f_StepSet_farthest) :
    FnOk P w K mg base CX0 4 f fd ["steps", "climate", "stand", "sign"] (spP K ad 4 G_f_next_stand) :=
  ok0 (N := N_f_next_stand) (s := B_f_next_stand) F sc_f_next_stand rfl rfl fun cdv A outer s H E hr =>
    (ss_c (s_asgT (pp_v 2 (pv 2)) (g_t rfl rfl (gs_c (g_n (i := 4) sc_f_next_stand.nd rfl (by first | exact Or.inl rfl | exact Or.inr rfl)) (gs_c (g_n (i := 5) sc_f_next_stand.nd rfl (by first | exact Or.inl rfl | exact Or.inr rfl)) gs_n))))
    (ss_c (s_set (i := 6) sc_f_next_stand.nd rfl (by first | exact Or.inl rfl | exact Or.inr rfl) (pp_call O_f_next_sky (hr.mono (by decide)) (by rfl) m_f_next_sky k_f_next_sky b_f_next_sky .nil pass0 (pq_c (pp_v 1 (pv 1)) (pq_c (pp_v 4 (pv 4)) (pq_c (pp_v 3 (pv 3)) pq_n))) .nil))
    (ss_c (s_if (pp_tcmp op_isNN o_is (pp_v 6 (pv 6)) (pp_c pe_non) (nomark _))
    (ss_1 (s_ret (pp_c pe_non)))
    ss_n)
    (ss_c (s_setLc (i := 7) (own := [("age", 9)]) (by rfl) sc_f_next_stand.nd rfl rfl (sw_true rfl rfl rfl (by decide +kernel)) (pi_t rfl (pp_v 5 (pv 5))) (blkOk_by (N := N_f_next_stand) (sc := defScope s_f_next_stand) (by decide +kernel)) (fun _ _ _ _ _ => (g_n (i := 9) sc_f_next_stand.nd rfl (by first | exact Or.inl rfl | exact Or.inr rfl))) (fun _ _ _ _ _ => pts_n) (fun _ _ _ _ _ => (pp_2 op_add o_add (pp_v 9 (pv 9)) (pp_c pe_int))))
    (ss_c (s_set (i := 8) sc_f_next_stand.nd rfl (by first | exact Or.inl rfl | exact Or.inr rfl) (pp_vif (PW.pt (pp_wan (pp_tcmp (op_eqB hr.units) o_eq (pp_v 3 (pv 3)) (pp_c (C8.pe_gc (by rfl) g_DRY)) (nomark _)) (pw_and1 (pp_tval (pp_B ob_any (cr_any rfl) (by rfl) z_any (by decide +kernel) (pd_c (pp_lc (own := [("age", 9)]) (by rfl) sc_f_next_stand.nd (pi_l rfl (pp_v 7 (pv 7))) (blkOk_by (N := N_f_next_stand) (sc := defScope s_f_next_stand) (by decide +kernel)) (fun _ _ _ _ _ => (g_n (i := 9) sc_f_next_stand.nd rfl (by first | exact Or.inl rfl | exact Or.inr rfl))) (fun _ _ _ _ _ => pts_n) (fun _ _ _ _ _ => (pp_ownin .StepSet rfl M_StepSet_contains O_StepSet_contains (hr.mono (by decide)) b_StepSet_contains pass0 (pp_v 9 (pv 9)) (pp_v 0 (pv 0)) (by rfl)))) pd_n)))))) (pp_lst (pd_c (pp_c pe_int) pd_n)) (pp_lst pd_n)))
    (ss_1 (s_ret (pp_tup (pd_c (pp_v 6 (pv 6)) (pd_c (pp_T ob_tup (c_tupA rfl) (by rfl) z_tuple (by decide +kernel) (pd_c (pp_2c op_cat o_cat (pp_v 8 (pv 8)) (pp_lc (own := [("age", 9)]) (by rfl) sc_f_next_stand.nd (pi_l rfl (pp_v 7 (pv 7))) (blkOk_by (N := N_f_next_stand) (sc := defScope s_f_next_stand) (by decide +kernel)) (fun _ _ _ _ _ => (g_n (i := 9) sc_f_next_stand.nd rfl (by first | exact Or.inl rfl | exact Or.inr rfl))) (fun _ _ _ _ _ => (pts_1 (pp_tcmp op_lt o_lt (pp_v 9 (pv 9)) (pp_prop .StepSet (pp_v 0 (pv 0)) T_StepSet.cl P_StepSet_farthest O_StepSet_farthest (hr.mono (by decide)) b_StepSet_farthest pass0) (nomark _)))) (fun _ _ _ _ _ => (pp_v 9 (pv 9))))) pd_n)) pd_n))))))))))

theorem ok_l_take {f : Addr} {fd : FuncData} (F : L2.Fun K "_law_take" "_law_take" s_l_take f fd)
    (z_int : mg "int" = none) :
    FnOk P w K mg base CX0 1 f fd ["pool", "size"] (spP K ad 2 G_l_take) :=
  ok0 (N := N_l_take) (s := B_l_take) F sc_l_take rfl rfl fun cdv A outer s H E hr =>
    (ss_c (s_setI 0 (pv 0) (pp_c pe_int) (pp_2 op_add o_add (look_v 0 (pp_ix rfl (pp_v 0 (pv 0)) (pp_c pe_int) (fun _ _ => rfl))) (pp_c pe_int)))
    (ss_c (s_if (pp_tcmp op_gt o_gt (look_v 0 (pp_ix rfl (pp_v 0 (pv 0)) (pp_c pe_int) (fun _ _ => rfl))) (pp_c pe_int) (nomark _))
    (ss_c (s_set (i := 2) sc_l_take.nd rfl (by first | exact Or.inl rfl | exact Or.inr rfl) (pp_2 op_mod o_mod (pp_T ob_int OW.c_int1 (by rfl) z_int (by decide +kernel) (pd_c (look_v 0 (pp_ix rfl (pp_v 0 (pv 0)) (pp_c pe_int) (fun _ _ => rfl))) pd_n)) (pp_v 1 (pv 1))))
    (ss_c (s_setI 0 (pv 0) (pp_c pe_int) (pp_2 op_divB o_div (look_v 0 (pp_ix rfl (pp_v 0 (pv 0)) (pp_c pe_int) (fun _ _ => rfl))) (pp_v 1 (pv 1))))
    (ss_1 (s_ret (pp_v 2 (pv 2))))))
    ss_n)
    (ss_c (s_set (i := 3) sc_l_take.nd rfl (by first | exact Or.inl rfl | exact Or.inr rfl) (pp_2 op_mod o_mod (pp_T ob_int OW.c_int1 (by rfl) z_int (by decide +kernel) (pd_c (pp_2 op_add o_add (pp_2 op_add o_add (look_v 0 (pp_ix rfl (pp_v 0 (pv 0)) (pp_c pe_int) (fun _ _ => rfl))) (pp_2 op_mulB o_mul (pp_c pe_int) (look_v 0 (pp_ix rfl (pp_v 0 (pv 0)) (pp_c pe_int) (fun _ _ => rfl))))) (pp_c pe_int)) pd_n)) (pp_c pe_int)))
    (ss_c (s_set (i := 3) sc_l_take.nd rfl (by first | exact Or.inl rfl | exact Or.inr rfl) (pp_2 op_mod o_mod (pp_T ob_int OW.c_int1 (by rfl) z_int (by decide +kernel) (pd_c (pp_2 op_add o_add (pp_2 op_add o_add (pp_2 op_mulB o_mul (pp_v 3 (pv 3)) (pp_v 3 (pv 3))) (pp_2 op_mulB o_mul (pp_c pe_int) (look_v 0 (pp_ix rfl (pp_v 0 (pv 0)) (pp_c pe_int) (fun _ _ => rfl))))) (pp_c pe_int)) pd_n)) (pp_c pe_int)))
    (ss_c (s_set (i := 3) sc_l_take.nd rfl (by first | exact Or.inl rfl | exact Or.inr rfl) (pp_2 op_mod o_mod (pp_T ob_int OW.c_int1 (by rfl) z_int (by decide +kernel) (pd_c (pp_2 op_add o_add (pp_2 op_add o_add (pp_2 op_mulB o_mul (pp_v 3 (pv 3)) (pp_v 3 (pv 3))) (pp_2 op_mulB o_mul (pp_c pe_int) (look_v 0 (pp_ix rfl (pp_v 0 (pv 0)) (pp_c pe_int) (fun _ _ => rfl))))) (pp_c pe_int)) pd_n)) (pp_c pe_int)))
    (ss_1 (s_ret (pp_2 op_mod o_mod (pp_T ob_int OW.c_int1 (by rfl) z_int (by decide +kernel) (pd_c (pp_2 op_divB o_div (pp_v 3 (pv 3)) (pp_c pe_int)) pd_n)) (pp_v 1 (pv 1))))))))))

theorem ok_l_ab {f : Addr} {fd : FuncData} (F : L2.Fun K "_law_ab" "_law_ab" s_l_ab f fd)
    {f_l_take : Addr} {fd_l_take : FuncData} (O_l_take : FnOk P w K mg base CX0 1 f_l_take fd_l_take ["pool", "size"] (spP K ad 2 G_l_take)) (m_l_take : mg "_law_take" = some (.ref f_l_take)) (k_l_take : PySem.W.keepIn K (.ref f_l_take) = true) (b_l_take : Binds K fd_l_take ["pool", "size"] []) :
    FnOk P w K mg base CX0 2 f fd ["pool", "most"] (spP K ad 2 G_l_ab) :=
  ok0 (N := N_l_ab) (s := B_l_ab) F sc_l_ab rfl rfl fun cdv A outer s H E hr =>
    (ss_c (s_set (i := 2) sc_l_ab.nd rfl (by first | exact Or.inl rfl | exact Or.inr rfl) (pp_2 op_add o_add (pp_c pe_int) (pp_call O_l_take (hr.mono (by decide)) (by rfl) m_l_take k_l_take b_l_take .nil pass0 (pq_k 0 (pv 0) (pq_c (pp_2 op_sub o_sub (pp_v 1 (pv 1)) (pp_c pe_int)) pq_n)) .nil)))
    (ss_1 (s_ret (pp_tup (pd_c (pp_v 2 (pv 2)) (pd_c (pp_2 op_add o_add (pp_2 op_add o_add (pp_v 2 (pv 2)) (pp_c pe_int)) (pp_call O_l_take (hr.mono (by decide)) (by rfl) m_l_take k_l_take b_l_take .nil pass0 (pq_k 0 (pv 0) (pq_c (pp_2 op_sub o_sub (pp_v 1 (pv 1)) (pp_v 2 (pv 2))) pq_n)) .nil)) pd_n))))))

theorem ok_l_cell {f : Addr} {fd : FuncData} (F : L2.Fun K "_law_cell" "_law_cell" s_l_cell f fd)
    (z_len : mg "len" = none) :
    FnOk P w K mg base CX0 1 f fd ["script", "k"] (spP K ad 2 G_l_cell) :=
  ok0 (N := N_l_cell) (s := B_l_cell) F sc_l_cell rfl rfl fun cdv A outer s H E hr =>
    (ss_c (s_if (pp_tcmp op_lt o_lt (pp_v 1 (pv 1)) (pp_B ob_len (c_lenA rfl) (by rfl) z_len (by decide +kernel) (pd_c (pp_v 0 (pv 0)) pd_n)) (nomark _))
    (ss_1 (s_ret (pp_ix rfl (pp_v 0 (pv 0)) (pp_v 1 (pv 1)) (fun _ _ => rfl))))
    ss_n)
    (ss_1 (s_ret (pp_2 op_add o_add (pp_2 op_mulB o_mul (pp_c pe_int) (pp_v 1 (pv 1))) (pp_c pe_int)))))

theorem ok_StepSet_iter {f : Addr} {fd : FuncData} (F : L2.Fun K "__iter__" "StepSet.__iter__" s_StepSet_iter f fd) (T_StepSet : S_StepSet K mg (ad .StepSet)) (z_iter : mg "iter" = none) :
    OW.FnS P w K mg base 1 f fd ["self"] (spIt K (ad .StepSet) "steps") := by
  refine OW.okS F sc_StepSet_iter (fun _ vs H Q E h => ?_) (fun cdv A outer s H vs Q E hr h => ?_)
  · obtain ⟨p, dx, t, fs, zs, rfl, _⟩ := h
    rfl
  · obtain ⟨p, dx, t, fs, zs, rfl, hp, hl, hT, q⟩ := h
    exact ⟨_, (pss_one (ps_ret (pe_callB OW.c_iterT (by rfl) z_iter (by decide +kernel) (pa_cons (pe_fld (pv 0) rfl) pa_nil)))), .ref p, rfl, p, _, dx, fs, .ref t, rfl, hp, T_StepSet.cl, T_StepSet.n_steps, hl, t, zs, rfl, hT, q⟩

theorem ok_l_same {f : Addr} {fd : FuncData} (F : L2.Fun K "_law_same" "_law_same" s_l_same f fd) (m_l_same : mg "_law_same" = some (.ref f)) (k_l_same : PySem.W.keepIn K (.ref f) = true) (b_l_same : Binds K fd ["actual", "due"] [])
    (z_bool : mg "bool" = none)
    (z_int : mg "int" = none)
    (z_isinstance : mg "isinstance" = none)
    (z_len : mg "len" = none)
    (z_list : mg "list" = none)
    (z_range : mg "range" = none)
    (z_str : mg "str" = none)
    (z_tuple : mg "tuple" = none)
    (kit_NoneType_bool : PySem.W.kitOne K (.type "NoneType") (.type "bool") = some false)
    (kit_NoneType_int : PySem.W.kitOne K (.type "NoneType") (.type "int") = some false)
    (kit_NoneType_list : PySem.W.kitOne K (.type "NoneType") (.type "list") = some false)
    (kit_NoneType_str : PySem.W.kitOne K (.type "NoneType") (.type "str") = some false)
    (kit_NoneType_tuple : PySem.W.kitOne K (.type "NoneType") (.type "tuple") = some false)
    (kit_bool_bool : PySem.W.kitOne K (.type "bool") (.type "bool") = some true)
    (kit_bool_int : PySem.W.kitOne K (.type "bool") (.type "int") = some true)
    (kit_bool_list : PySem.W.kitOne K (.type "bool") (.type "list") = some false)
    (kit_bool_str : PySem.W.kitOne K (.type "bool") (.type "str") = some false)
    (kit_bool_tuple : PySem.W.kitOne K (.type "bool") (.type "tuple") = some false)
    (kit_int_bool : PySem.W.kitOne K (.type "int") (.type "bool") = some false)
    (kit_int_int : PySem.W.kitOne K (.type "int") (.type "int") = some true)
    (kit_int_list : PySem.W.kitOne K (.type "int") (.type "list") = some false)
    (kit_int_str : PySem.W.kitOne K (.type "int") (.type "str") = some false)
    (kit_int_tuple : PySem.W.kitOne K (.type "int") (.type "tuple") = some false)
    (kit_list_bool : PySem.W.kitOne K (.type "list") (.type "bool") = some false)
    (kit_list_int : PySem.W.kitOne K (.type "list") (.type "int") = some false)
    (kit_list_list : PySem.W.kitOne K (.type "list") (.type "list") = some true)
    (kit_list_str : PySem.W.kitOne K (.type "list") (.type "str") = some false)
    (kit_list_tuple : PySem.W.kitOne K (.type "list") (.type "tuple") = some false)
    (kit_str_bool : PySem.W.kitOne K (.type "str") (.type "bool") = some false)
    (kit_str_int : PySem.W.kitOne K (.type "str") (.type "int") = some false)
    (kit_str_list : PySem.W.kitOne K (.type "str") (.type "list") = some false)
    (kit_str_str : PySem.W.kitOne K (.type "str") (.type "str") = some true)
    (kit_str_tuple : PySem.W.kitOne K (.type "str") (.type "tuple") = some false)
    (kit_tuple_bool : PySem.W.kitOne K (.type "tuple") (.type "bool") = some false)
    (kit_tuple_int : PySem.W.kitOne K (.type "tuple") (.type "int") = some false)
    (kit_tuple_list : PySem.W.kitOne K (.type "tuple") (.type "list") = some false)
    (kit_tuple_str : PySem.W.kitOne K (.type "tuple") (.type "str") = some false)
    (kit_tuple_tuple : PySem.W.kitOne K (.type "tuple") (.type "tuple") = some true) (n : Nat) :
    FnOk P w K mg base CX0 (1 + n) f fd ["actual", "due"] (spP K ad 2 (GR_l_same n)) := by
  induction n with
  | zero => exact fn_none
  | succ n ih => exact ok0 (N := N_l_same) (s := B_l_same (GR_l_same n)) F sc_l_same rfl rfl fun cdv A outer s H E hr =>
    (ss_c (s_if (pp_tcmp op_isNN o_is (pp_v 1 (pv 1)) (pp_c pe_non) (nomark _))
    (ss_1 (s_ret (pp_cmp op_isNN o_is (pp_v 0 (pv 0)) (pp_c pe_non) (nomark _))))
    ss_n)
    (ss_c (s_if (pp_tval (pp_isi rfl (.b kit_tuple_bool (.b kit_str_bool (.b kit_list_bool (.b kit_int_bool (.b kit_bool_bool (.b kit_NoneType_bool .nil)))))) (.ty _) (by rfl) z_isinstance (pp_v 1 (pv 1)) (pe_bltn (v := .ty "bool") (by rfl) z_bool (by decide +kernel) rfl)))
    (ss_1 (s_ret (pp_van (pp_isi rfl (.b kit_tuple_bool (.b kit_str_bool (.b kit_list_bool (.b kit_int_bool (.b kit_bool_bool (.b kit_NoneType_bool .nil)))))) (.ty _) (by rfl) z_isinstance (pp_v 0 (pv 0)) (pe_bltn (v := .ty "bool") (by rfl) z_bool (by decide +kernel) rfl)) (pe_one (pp_cmp (op_eqB hr.units) o_eq (pp_v 0 (pv 0)) (pp_v 1 (pv 1)) (nomark _))))))
    ss_n)
    (ss_c (s_if (pp_tval (pp_isi rfl (.b kit_tuple_int (.b kit_str_int (.b kit_list_int (.b kit_int_int (.b kit_bool_int (.b kit_NoneType_int .nil)))))) (.ty _) (by rfl) z_isinstance (pp_v 1 (pv 1)) (pe_bltn (v := .ty "int") (by rfl) z_int (by decide +kernel) rfl)))
    (ss_1 (s_ret (pp_van (pp_isi rfl (.b kit_tuple_int (.b kit_str_int (.b kit_list_int (.b kit_int_int (.b kit_bool_int (.b kit_NoneType_int .nil)))))) (.ty _) (by rfl) z_isinstance (pp_v 0 (pv 0)) (pe_bltn (v := .ty "int") (by rfl) z_int (by decide +kernel) rfl)) (pp_van (pp_vno (pp_isi rfl (.b kit_tuple_bool (.b kit_str_bool (.b kit_list_bool (.b kit_int_bool (.b kit_bool_bool (.b kit_NoneType_bool .nil)))))) (.ty _) (by rfl) z_isinstance (pp_v 0 (pv 0)) (pe_bltn (v := .ty "bool") (by rfl) z_bool (by decide +kernel) rfl))) (pe_one (pp_cmp (op_eqB hr.units) o_eq (pp_v 0 (pv 0)) (pp_v 1 (pv 1)) (nomark _)))))))
    ss_n)
    (ss_c (s_if (pp_tval (pp_isi rfl (.b kit_tuple_str (.b kit_str_str (.b kit_list_str (.b kit_int_str (.b kit_bool_str (.b kit_NoneType_str .nil)))))) (.ty _) (by rfl) z_isinstance (pp_v 1 (pv 1)) (pe_bltn (v := .ty "str") (by rfl) z_str (by decide +kernel) rfl)))
    (ss_1 (s_ret (pp_van (pp_isi rfl (.b kit_tuple_str (.b kit_str_str (.b kit_list_str (.b kit_int_str (.b kit_bool_str (.b kit_NoneType_str .nil)))))) (.ty _) (by rfl) z_isinstance (pp_v 0 (pv 0)) (pe_bltn (v := .ty "str") (by rfl) z_str (by decide +kernel) rfl)) (pe_one (pp_cmp (op_eqB hr.units) o_eq (pp_v 0 (pv 0)) (pp_v 1 (pv 1)) (nomark _))))))
    ss_n)
    (ss_c (s_if (PW.pt (pp_wan (pp_tval (pp_isi rfl (.b kit_tuple_tuple (.b kit_str_tuple (.b kit_list_tuple (.b kit_int_tuple (.b kit_bool_tuple (.b kit_NoneType_tuple .nil)))))) (.ty _) (by rfl) z_isinstance (pp_v 1 (pv 1)) (pe_bltn (v := .ty "tuple") (by rfl) z_tuple (by decide +kernel) rfl))) (pw_and1 (pp_tno (pp_tval (pp_isi rfl (.b kit_tuple_tuple (.b kit_str_tuple (.b kit_list_tuple (.b kit_int_tuple (.b kit_bool_tuple (.b kit_NoneType_tuple .nil)))))) (.ty _) (by rfl) z_isinstance (pp_v 0 (pv 0)) (pe_bltn (v := .ty "tuple") (by rfl) z_tuple (by decide +kernel) rfl)))))))
    (ss_1 (s_ret (pp_c pe_bl)))
    ss_n)
    (ss_c (s_if (PW.pt (pp_wan (pp_tval (pp_isi rfl (.b kit_tuple_list (.b kit_str_list (.b kit_list_list (.b kit_int_list (.b kit_bool_list (.b kit_NoneType_list .nil)))))) (.ty _) (by rfl) z_isinstance (pp_v 1 (pv 1)) (pe_bltn (v := .ty "list") (by rfl) z_list (by decide +kernel) rfl))) (pw_and1 (pp_tno (pp_tval (pp_isi rfl (.b kit_tuple_list (.b kit_str_list (.b kit_list_list (.b kit_int_list (.b kit_bool_list (.b kit_NoneType_list .nil)))))) (.ty _) (by rfl) z_isinstance (pp_v 0 (pv 0)) (pe_bltn (v := .ty "list") (by rfl) z_list (by decide +kernel) rfl)))))))
    (ss_1 (s_ret (pp_c pe_bl)))
    ss_n)
    (ss_c (s_if (pp_tcmp (op_neB hr.units) o_ne (pp_B ob_len (c_lenA rfl) (by rfl) z_len (by decide +kernel) (pd_c (pp_v 0 (pv 0)) pd_n)) (pp_B ob_len (c_lenA rfl) (by rfl) z_len (by decide +kernel) (pd_c (pp_v 1 (pv 1)) pd_n)) (nomark _))
    (ss_1 (s_ret (pp_c pe_bl)))
    ss_n)
    (ss_c (s_for PassesOwn.never rfl (pi_r1 (by rfl) z_range (pp_B ob_len (c_lenA rfl) (by rfl) z_len (by decide +kernel) (pd_c (pp_v 1 (pv 1)) pd_n))) (g_n (i := 2) sc_l_same.nd rfl (by first | exact Or.inl rfl | exact Or.inr rfl))
    (ss_1 (s_if (pp_tno (pp_tval (pp_call ih hr (by rfl) m_l_same k_l_same b_l_same .nil pass0 (pq_c (pp_ix rfl (pp_v 0 (pv 0)) (pp_v 2 (pv 2)) (fun _ _ => rfl)) (pq_c (pp_ix rfl (pp_v 1 (pv 1)) (pp_v 2 (pv 2)) (fun _ _ => rfl)) pq_n)) .nil)))
    (ss_1 (s_ret (pp_c pe_bl)))
    ss_n)))
    (ss_1 (s_ret (pp_c pe_bl)))))))))))

theorem ok_l_is {f : Addr} {fd : FuncData} (F : L2.Fun K "_law_is" "_law_is" s_l_is f fd)
    (T_StepSet : S_StepSet K mg (ad .StepSet))
    (z_isinstance : mg "isinstance" = none)
    (z_list : mg "list" = none)
    (z_tuple : mg "tuple" = none)
    (kit_NoneType_StepSet : PySem.W.kitOne K (.type "NoneType") (.ref (ad .StepSet)) = some false)
    (kit_StepSet_StepSet : PySem.W.kitOne K (.ref (ad .StepSet)) (.ref (ad .StepSet)) = some true)
    {f_l_same : Addr} {fd_l_same : FuncData} (O_l_same : FnOk P w K mg base CX0 5 f_l_same fd_l_same ["actual", "due"] (spP K ad 2 G_l_same)) (m_l_same : mg "_law_same" = some (.ref f_l_same)) (k_l_same : PySem.W.keepIn K (.ref f_l_same) = true) (b_l_same : Binds K fd_l_same ["actual", "due"] [])
    {f_StepSet_contains : Addr} {fd_StepSet_contains : FuncData} (O_StepSet_contains : FnOk P w K mg base CX0 1 f_StepSet_contains fd_StepSet_contains ["self", "step"] (spP K ad 2 G_StepSet_contains)) (b_StepSet_contains : Binds K fd_StepSet_contains ["self", "step"] []) (M_StepSet_contains : Meth K (ad .StepSet) "__contains__" f_StepSet_contains)
    {f_StepSet_farthest : Addr} {fd_StepSet_farthest : FuncData} (O_StepSet_farthest : FnOk P w K mg base CX0 1 f_StepSet_farthest fd_StepSet_farthest ["self"] (spP K ad 1 G_StepSet_farthest)) (b_StepSet_farthest : Binds K fd_StepSet_farthest ["self"] []) {p_StepSet_farthest : Addr} (P_StepSet_farthest : PropOf K (ad .StepSet) "farthest" p_StepSet_farthest f_StepSet_farthest)
    {f_StepSet_iter : Addr} {fd_StepSet_iter : FuncData} (O_StepSet_iter : OW.FnS P w K mg base 1 f_StepSet_iter fd_StepSet_iter ["self"] (spIt K (ad .StepSet) "steps")) (b_StepSet_iter : Binds K fd_StepSet_iter ["self"] []) (M_StepSet_iter : Meth K (ad .StepSet) "__iter__" f_StepSet_iter) :
    FnOk P w K mg base CX0 6 f fd ["thing", "steps"] (spP K ad 2 G_l_is) :=
  ok0 (N := N_l_is) (s := B_l_is) F sc_l_is rfl rfl fun cdv A outer s H E hr =>
    (ss_c (s_if (PW.pt (pp_woo (pp_tno (pp_tval (pp_isi rfl (.o kit_StepSet_StepSet T_StepSet.ct (.b kit_NoneType_StepSet .nil)) (.own _) (by rfl) z_isinstance (pp_v 0 (pv 0)) (C8.pe_gc (v := .ref (ad .StepSet)) (by rfl) ⟨_, T_StepSet.mg, rfl⟩)))) (pw_or1 (pp_tno (pp_tval (pp_call O_l_same (hr.mono (by decide)) (by rfl) m_l_same k_l_same b_l_same .nil pass0 (pq_c (pp_fld .StepSet 0 rfl T_StepSet.cl T_StepSet.n_steps (pp_v 0 (pv 0))) (pq_c (pp_T ob_tup (c_tupA rfl) (by rfl) z_tuple (by decide +kernel) (pd_c (pp_v 1 (pv 1)) pd_n)) pq_n)) .nil))))))
    (ss_1 (s_ret (pp_c pe_bl)))
    ss_n)
    (ss_c (s_if (PW.pt (pp_woo (pp_tno (pp_tval (pp_call O_l_same (hr.mono (by decide)) (by rfl) m_l_same k_l_same b_l_same .nil pass0 (pq_c (pp_prop .StepSet (pp_v 0 (pv 0)) T_StepSet.cl P_StepSet_farthest O_StepSet_farthest (hr.mono (by decide)) b_StepSet_farthest pass0) (pq_c (pp_ix rfl (pp_v 1 (pv 1)) (pp_1 un_neg o_neg (pp_c pe_int)) (fun _ _ => rfl)) pq_n)) .nil))) (pw_or1 (pp_tno (pp_tval (pp_call O_l_same (hr.mono (by decide)) (by rfl) m_l_same k_l_same b_l_same .nil pass0 (pq_c (pp_Tc (ob_lstO .StepSet 0) (OW.call_listT rfl M_StepSet_iter O_StepSet_iter (hr.mono (by decide)) b_StepSet_iter T_StepSet.n___len__ T_StepSet.n___length_hint__) (by rfl) z_list (by decide +kernel) (pd_c (pp_v 0 (pv 0)) pd_n)) (pq_c (pp_v 1 (pv 1)) pq_n)) .nil))))))
    (ss_1 (s_ret (pp_c pe_bl)))
    ss_n)
    (ss_c (s_for PassesOwn.never rfl (pi_l rfl (pp_lst (pd_c (pp_1 un_neg o_neg (pp_c pe_int)) (pd_c (pp_1 un_neg o_neg (pp_c pe_int)) (pd_c (pp_1 un_neg o_neg (pp_c pe_int)) (pd_c (pp_1 un_neg o_neg (pp_c pe_int)) (pd_c (pp_c pe_int) (pd_c (pp_c pe_int) (pd_c (pp_c pe_int) (pd_c (pp_c pe_int) (pd_c (pp_c pe_int) (pd_c (pp_c pe_int) (pd_c (pp_c pe_int) (pd_c (pp_c pe_int) (pd_c (pp_c pe_int) (pd_c (pp_c pe_int) (pd_c (pp_c pe_int) (pd_c (pp_c pe_int) (pd_c (pp_c pe_int) pd_n))))))))))))))))))) (g_n (i := 2) sc_l_is.nd rfl (by first | exact Or.inl rfl | exact Or.inr rfl))
    (ss_1 (s_if (pp_tcmp (op_neB hr.units) o_ne (pp_ownin .StepSet rfl M_StepSet_contains O_StepSet_contains (hr.mono (by decide)) b_StepSet_contains pass0 (pp_v 2 (pv 2)) (pp_v 0 (pv 0)) (by rfl)) (pp_cmp (op_inB rfl) o_in (pp_v 2 (pv 2)) (pp_v 1 (pv 1)) (by rfl)) (nomark _))
    (ss_1 (s_ret (pp_c pe_bl)))
    ss_n)))
    (ss_1 (s_ret (pp_c pe_bl))))))

theorem ok_l_items {f : Addr} {fd : FuncData} (F : L2.Fun K "_law_items" "_law_items" s_l_items f fd)
    (z_len : mg "len" = none)
    (z_range : mg "range" = none)
    {f_l_take : Addr} {fd_l_take : FuncData} (O_l_take : FnOk P w K mg base CX0 1 f_l_take fd_l_take ["pool", "size"] (spP K ad 2 G_l_take)) (m_l_take : mg "_law_take" = some (.ref f_l_take)) (k_l_take : PySem.W.keepIn K (.ref f_l_take) = true) (b_l_take : Binds K fd_l_take ["pool", "size"] []) :
    FnOk P w K mg base CX0 2 f fd ["pool"] (spP K ad 1 G_l_items) :=
  ok0 (N := N_l_items) (s := B_l_items) F sc_l_items rfl rfl fun cdv A outer s H E hr =>
    (ss_c (s_set (i := 1) sc_l_items.nd rfl (by first | exact Or.inl rfl | exact Or.inr rfl) (pp_c pe_int))
    (ss_c (s_if (pp_tcmp (op_eqB hr.units) o_eq (pp_call O_l_take (hr.mono (by decide)) (by rfl) m_l_take k_l_take b_l_take .nil pass0 (pq_k 0 (pv 0) (pq_c (pp_c pe_int) pq_n)) .nil) (pp_c pe_int) (nomark _))
    (ss_1 (s_set (i := 1) sc_l_items.nd rfl (by first | exact Or.inl rfl | exact Or.inr rfl) (pp_c pe_int)))
    ss_n)
    (ss_c (s_setLcC (i := 2) (own := [("k", 6)]) (by rfl) sc_l_items.nd rfl rfl (sw_true rfl rfl rfl (by decide +kernel)) (pi_r1 (by rfl) z_range (pp_2 op_add o_add (pp_c pe_int) (pp_call O_l_take (hr.mono (by decide)) (by rfl) m_l_take k_l_take b_l_take .nil pass0 (pq_k 0 (pv 0) (pq_c (pp_v 1 (pv 1)) pq_n)) .nil))) (blkOk_by (N := N_l_items) (sc := defScope s_l_items) (by decide +kernel)) (fun _ _ _ _ _ => (g_n (i := 6) sc_l_items.nd rfl (by first | exact Or.inl rfl | exact Or.inr rfl))) (fun _ _ _ _ _ => pts_n) (fun _ _ _ _ _ => (pp_2 op_add o_add (pp_c pe_int) (pp_call O_l_take (hr.mono (by decide)) (by rfl) m_l_take k_l_take b_l_take .nil pass0 (pq_k 0 (pv 0) (pq_c (pp_c pe_int) pq_n)) .nil))))
    (ss_c (s_set (i := 3) sc_l_items.nd rfl (by first | exact Or.inl rfl | exact Or.inr rfl) (pp_call O_l_take (hr.mono (by decide)) (by rfl) m_l_take k_l_take b_l_take .nil pass0 (pq_k 0 (pv 0) (pq_c (pp_c pe_int) pq_n)) .nil))
    (ss_c (s_if (pp_tcmp (op_eqB hr.units) o_eq (pp_v 3 (pv 3)) (pp_c pe_int) (nomark _))
    (ss_1 (s_ret (pp_lst pd_n)))
    ss_n)
    (ss_c (s_if (PW.pt (pp_woo (pp_tcmp (op_eqB hr.units) o_eq (pp_v 3 (pv 3)) (pp_c pe_int) (nomark _)) (pw_or1 (pp_tcmp (op_eqB hr.units) o_eq (pp_v 3 (pv 3)) (pp_c pe_int) (nomark _)))))
    (ss_c (s_set (i := 4) sc_l_items.nd rfl (by first | exact Or.inl rfl | exact Or.inr rfl) (pp_ix rfl (pp_lst (pd_c (pp_c pe_int) (pd_c (pp_c pe_int) (pd_c (pp_c pe_int) (pd_c (pp_2 op_pow o_pow (pp_c pe_int) (pp_c pe_int)) pd_n))))) (pp_call O_l_take (hr.mono (by decide)) (by rfl) m_l_take k_l_take b_l_take .nil pass0 (pq_k 0 (pv 0) (pq_c (pp_c pe_int) pq_n)) .nil) (fun _ _ => rfl)))
    (ss_c (s_set (i := 5) sc_l_items.nd rfl (by first | exact Or.inl rfl | exact Or.inr rfl) (pp_2 op_add o_add (pp_c pe_int) (pp_call O_l_take (hr.mono (by decide)) (by rfl) m_l_take k_l_take b_l_take .nil pass0 (pq_k 0 (pv 0) (pq_c (pp_v 4 (pv 4)) pq_n)) .nil)))
    (ss_c (s_if (pp_tcmp (op_eqB hr.units) o_eq (pp_call O_l_take (hr.mono (by decide)) (by rfl) m_l_take k_l_take b_l_take .nil pass0 (pq_k 0 (pv 0) (pq_c (pp_c pe_int) pq_n)) .nil) (pp_c pe_int) (nomark _))
    (ss_1 (s_set (i := 5) sc_l_items.nd rfl (by first | exact Or.inl rfl | exact Or.inr rfl) (pp_2 op_sub o_sub (pp_c pe_int) (pp_v 5 (pv 5)))))
    ss_n)
    (ss_1 (s_ex (pp_bmL 2 rfl ol_ins PySem.F.plainAttrs_list PySem.F.slot_list_insert PySem.F.type_list_insert OW.m_ins (pv 2) (pd_c (pp_call O_l_take (hr.mono (by decide)) (by rfl) m_l_take k_l_take b_l_take .nil pass0 (pq_k 0 (pv 0) (pq_c (pp_2 op_add o_add (look_v 2 (pp_B ob_len (c_lenA rfl) (by rfl) z_len (by decide +kernel) (pd_c (pp_v 2 (pv 2)) pd_n))) (pp_c pe_int)) pq_n)) .nil) (pd_c (pp_v 5 (pv 5)) pd_n))))))))
    ss_n)
    (ss_1 (s_ret (pp_m 2 (pv 2))))))))))

theorem ok_l_kinds {f : Addr} {fd : FuncData} (F : L2.Fun K "_law_kinds" "_law_kinds" s_l_kinds f fd)
    (z_range : mg "range" = none)
    {f_l_take : Addr} {fd_l_take : FuncData} (O_l_take : FnOk P w K mg base CX0 1 f_l_take fd_l_take ["pool", "size"] (spP K ad 2 G_l_take)) (m_l_take : mg "_law_take" = some (.ref f_l_take)) (k_l_take : PySem.W.keepIn K (.ref f_l_take) = true) (b_l_take : Binds K fd_l_take ["pool", "size"] []) :
    FnOk P w K mg base CX0 2 f fd ["pool", "most", "peak", "need"] (spP K ad 4 G_l_kinds) :=
  ok0 (N := N_l_kinds) (s := B_l_kinds) F sc_l_kinds rfl rfl fun cdv A outer s H E hr =>
    (ss_c (s_setC (i := 4) sc_l_kinds.nd rfl (by first | exact Or.inl rfl | exact Or.inr rfl) (pp_lst pd_n))
    (ss_c (s_for PassesOwn.never rfl (pi_r1 (by rfl) z_range (pp_call O_l_take (hr.mono (by decide)) (by rfl) m_l_take k_l_take b_l_take .nil pass0 (pq_k 0 (pv 0) (pq_c (pp_2 op_add o_add (pp_v 1 (pv 1)) (pp_c pe_int)) pq_n)) .nil)) (g_n (i := 5) sc_l_kinds.nd rfl (by first | exact Or.inl rfl | exact Or.inr rfl))
    (ss_c (s_set (i := 6) sc_l_kinds.nd rfl (by first | exact Or.inl rfl | exact Or.inr rfl) (pp_2 op_add o_add (pp_c pe_int) (pp_call O_l_take (hr.mono (by decide)) (by rfl) m_l_take k_l_take b_l_take .nil pass0 (pq_k 0 (pv 0) (pq_c (pp_v 2 (pv 2)) pq_n)) .nil)))
    (ss_1 (s_ex (pp_bmL 4 rfl ol_app PySem.F.plainAttrs_list PySem.F.slot_list_append PySem.F.type_list_append mt_append (pv 4) (pd_c (pp_tup (pd_c (pp_v 6 (pv 6)) (pd_c (pp_2 op_add o_add (pp_c pe_int) (pp_call O_l_take (hr.mono (by decide)) (by rfl) m_l_take k_l_take b_l_take .nil pass0 (pq_k 0 (pv 0) (pq_c (pp_v 3 (pv 3)) pq_n)) .nil)) pd_n))) pd_n))))))
    (ss_1 (s_ret (pp_m 4 (pv 4))))))

theorem ok_l_made {f : Addr} {fd : FuncData} (F : L2.Fun K "_law_made" "_law_made" s_l_made f fd)
    (T_BadKind : S_BadKind K mg (ad .BadKind))
    (T_BadLacquer : S_BadLacquer K mg (ad .BadLacquer))
    (T_BadSteps : S_BadSteps K mg (ad .BadSteps))
    (T_DampError : S_DampError K mg (ad .DampError))
    (T_StepSet : S_StepSet K mg (ad .StepSet))
    (T_TooLarge : S_TooLarge K mg (ad .TooLarge))
    (z_ValueError : mg "ValueError" = none)
    (z_isinstance : mg "isinstance" = none)
    (kit_BadSteps_DampError : PySem.W.kitOne K (.ref (ad .BadSteps)) (.ref (ad .DampError)) = some true)
    (kit_BadSteps_TooLarge : PySem.W.kitOne K (.ref (ad .BadSteps)) (.ref (ad .TooLarge)) = some false)
    (kit_BadSteps_ValueError : PySem.W.kitOne K (.ref (ad .BadSteps)) (.type "ValueError") = some true)
    (xm_BadKind_BadSteps : PySem.W.exmOne K (.ref (ad .BadKind)) (.ref (ad .BadSteps)) = some false)
    (xm_BadLacquer_BadSteps : PySem.W.exmOne K (.ref (ad .BadLacquer)) (.ref (ad .BadSteps)) = some false)
    (xm_BadSteps_BadSteps : PySem.W.exmOne K (.ref (ad .BadSteps)) (.ref (ad .BadSteps)) = some true)
    (xm_DampError_BadSteps : PySem.W.exmOne K (.ref (ad .DampError)) (.ref (ad .BadSteps)) = some false)
    (xm_TooLarge_BadSteps : PySem.W.exmOne K (.ref (ad .TooLarge)) (.ref (ad .BadSteps)) = some false)
    {f_StepSet_init : Addr} {fd_StepSet_init : FuncData} (O_StepSet_init : FnOk P w K mg base (L2.CX P w) 1 f_StepSet_init fd_StepSet_init ["self", "steps"] (spP K ad 2 G_StepSet_init)) (b_StepSet_init : Binds K fd_StepSet_init ["self", "steps"] []) (I_StepSet : Mk K (ad .StepSet) f_StepSet_init) :
    FnOk P w K mg base CX0 3 f fd ["items"] (spP K ad 1 G_l_made) :=
  ok0 (N := N_l_made) (s := B_l_made) F sc_l_made rfl rfl fun cdv A outer s H E hr =>
    (ss_c (s_set (i := 1) sc_l_made.nd rfl (by first | exact Or.inl rfl | exact Or.inr rfl) (pp_c pe_str))
    (ss_c (s_set (i := 2) sc_l_made.nd rfl (by first | exact Or.inl rfl | exact Or.inr rfl) (pp_c pe_non))
    (ss_c (s_set (i := 3) sc_l_made.nd rfl (by first | exact Or.inl rfl | exact Or.inr rfl) (pp_c pe_bl))
    (ss_c (s_tryA (i := 4) rfl rfl rfl sc_l_made.nd rfl rfl ⟨rfl, by decide, (.inl T_BadSteps.mg)⟩ takes0 (.cons xm_DampError_BadSteps (.cons xm_BadLacquer_BadSteps (.cons xm_BadKind_BadSteps (.cons xm_BadSteps_BadSteps (.cons xm_TooLarge_BadSteps .nil)))))
    (fun W pn xe tk po => (ss_1 (s_set (i := 2) sc_l_made.nd rfl (by first | exact Or.inl rfl | exact Or.inr rfl) (pp_makeS .StepSet I_StepSet O_StepSet_init tk (hr.mono (by decide)) (by rfl) T_StepSet.mg b_StepSet_init .nil (pq_c (pp_v 0 (pv 0)) pq_n) .nil))))
    (fun a oe cls d pn hz hf => (ss_c (s_set (i := 1) sc_l_made.nd rfl (by first | exact Or.inl rfl | exact Or.inr rfl) (pp_c pe_str))
    (ss_1 (s_set (i := 3) sc_l_made.nd rfl (by first | exact Or.inl rfl | exact Or.inr rfl) (pp_van (pp_isE 4 rfl hz hf (.o kit_BadSteps_DampError T_BadSteps.ex .nil) (fun _ h => ClsV.eq ((.own _)) h) (by rfl) z_isinstance (pv 4) (C8.pe_gc (v := .ref (ad .DampError)) (by rfl) ⟨_, T_DampError.mg, rfl⟩)) (pp_van (pp_isE 4 rfl hz hf (.o kit_BadSteps_ValueError T_BadSteps.ex .nil) (fun _ h => ClsV.eq ((.ty _)) h) (by rfl) z_isinstance (pv 4) (pe_bltn (v := .ty "ValueError") (by rfl) z_ValueError (by decide +kernel) rfl)) (pe_one (pp_vno (pp_isE 4 rfl hz hf (.o kit_BadSteps_TooLarge T_BadSteps.ex .nil) (fun _ h => ClsV.eq ((.own _)) h) (by rfl) z_isinstance (pv 4) (C8.pe_gc (v := .ref (ad .TooLarge)) (by rfl) ⟨_, T_TooLarge.mg, rfl⟩)))))))))))
    (ss_1 (s_ret (pp_tup (pd_c (pp_v 1 (pv 1)) (pd_c (pp_v 2 (pv 2)) (pd_c (pp_v 3 (pv 3)) pd_n))))))))))

theorem ok_l_least_run {f : Addr} {fd : FuncData} (F : L2.Fun K "_law_least_run" "_law_least_run" s_l_least_run f fd)
     :
    FnOk P w K mg base CX0 1 f fd ["kinds", "w"] (spP K ad 2 G_l_least_run) :=
  ok0 (N := N_l_least_run) (s := B_l_least_run) F sc_l_least_run rfl rfl fun cdv A outer s H E hr =>
    (ss_c (s_set (i := 2) sc_l_least_run.nd rfl (by first | exact Or.inl rfl | exact Or.inr rfl) (pp_c pe_int))
    (ss_c (s_for PassesOwn.never rfl (pi_l rfl (pp_v 0 (pv 0))) (g_n (i := 3) sc_l_least_run.nd rfl (by first | exact Or.inl rfl | exact Or.inr rfl))
    (ss_1 (s_if (PW.pt (pp_wan (pp_tcmp op_ge o_ge (pp_ix rfl (pp_v 3 (pv 3)) (pp_c pe_int) (fun _ _ => rfl)) (pp_v 1 (pv 1)) (nomark _)) (pw_and1 (PW.pt (pp_woo (pp_tcmp (op_eqB hr.units) o_eq (pp_v 2 (pv 2)) (pp_c pe_int) (nomark _)) (pw_or1 (pp_tcmp op_lt o_lt (pp_ix rfl (pp_v 3 (pv 3)) (pp_c pe_int) (fun _ _ => rfl)) (pp_v 2 (pv 2)) (nomark _))))))))
    (ss_1 (s_set (i := 2) sc_l_least_run.nd rfl (by first | exact Or.inl rfl | exact Or.inr rfl) (pp_ix rfl (pp_v 3 (pv 3)) (pp_c pe_int) (fun _ _ => rfl))))
    ss_n)))
    (ss_1 (s_ret (pp_v 2 (pv 2))))))

theorem ok_l_plain {f : Addr} {fd : FuncData} (F : L2.Fun K "_law_plain" "_law_plain" s_l_plain f fd)
    (z_range : mg "range" = none)
    {f_l_least_run : Addr} {fd_l_least_run : FuncData} (O_l_least_run : FnOk P w K mg base CX0 1 f_l_least_run fd_l_least_run ["kinds", "w"] (spP K ad 2 G_l_least_run)) (m_l_least_run : mg "_law_least_run" = some (.ref f_l_least_run)) (k_l_least_run : PySem.W.keepIn K (.ref f_l_least_run) = true) (b_l_least_run : Binds K fd_l_least_run ["kinds", "w"] []) :
    FnOk P w K mg base CX0 2 f fd ["kinds"] (spP K ad 1 G_l_plain) :=
  ok0 (N := N_l_plain) (s := B_l_plain) F sc_l_plain rfl rfl fun cdv A outer s H E hr =>
    (ss_c (s_setC (i := 1) sc_l_plain.nd rfl (by first | exact Or.inl rfl | exact Or.inr rfl) (pp_lst pd_n))
    (ss_c (s_for PassesOwn.never rfl (pi_r2 (by rfl) z_range (pp_c pe_int) (pp_c pe_int)) (g_n (i := 2) sc_l_plain.nd rfl (by first | exact Or.inl rfl | exact Or.inr rfl))
    (ss_c (s_set (i := 3) sc_l_plain.nd rfl (by first | exact Or.inl rfl | exact Or.inr rfl) (pp_call O_l_least_run (hr.mono (by decide)) (by rfl) m_l_least_run k_l_least_run b_l_least_run .nil pass0 (pq_c (pp_v 0 (pv 0)) (pq_c (pp_v 2 (pv 2)) pq_n)) .nil))
    (ss_1 (s_if (PW.pt (pp_wan (pp_tcmp op_gt o_gt (pp_v 3 (pv 3)) (pp_c pe_int) (nomark _)) (pw_and1 (pp_tcmp (op_neB hr.units) o_ne (pp_v 3 (pv 3)) (pp_call O_l_least_run (hr.mono (by decide)) (by rfl) m_l_least_run k_l_least_run b_l_least_run .nil pass0 (pq_c (pp_v 0 (pv 0)) (pq_c (pp_2 op_add o_add (pp_v 2 (pv 2)) (pp_c pe_int)) pq_n)) .nil) (nomark _)))))
    (ss_1 (s_ex (pp_bmL 1 rfl ol_app PySem.F.plainAttrs_list PySem.F.slot_list_append PySem.F.type_list_append mt_append (pv 1) (pd_c (pp_tup (pd_c (pp_v 2 (pv 2)) (pd_c (pp_v 3 (pv 3)) pd_n))) pd_n))))
    ss_n))))
    (ss_1 (s_ret (pp_m 1 (pv 1))))))

theorem ok_l_need {f : Addr} {fd : FuncData} (F : L2.Fun K "_law_need" "_law_need" s_l_need f fd)
    (z_len : mg "len" = none)
    {f_l_plain : Addr} {fd_l_plain : FuncData} (O_l_plain : FnOk P w K mg base CX0 2 f_l_plain fd_l_plain ["kinds"] (spP K ad 1 G_l_plain)) (m_l_plain : mg "_law_plain" = some (.ref f_l_plain)) (k_l_plain : PySem.W.keepIn K (.ref f_l_plain) = true) (b_l_plain : Binds K fd_l_plain ["kinds"] []) :
    FnOk P w K mg base CX0 3 f fd ["kinds"] (spP K ad 1 G_l_need) :=
  ok0 (N := N_l_need) (s := B_l_need) F sc_l_need rfl rfl fun cdv A outer s H E hr =>
    (ss_c (s_set (i := 1) sc_l_need.nd rfl (by first | exact Or.inl rfl | exact Or.inr rfl) (pp_call O_l_plain (hr.mono (by decide)) (by rfl) m_l_plain k_l_plain b_l_plain .nil pass0 (pq_c (pp_v 0 (pv 0)) pq_n) .nil))
    (ss_c (s_if (pp_tcmp (op_eqB hr.units) o_eq (pp_B ob_len (c_lenA rfl) (by rfl) z_len (by decide +kernel) (pd_c (pp_v 1 (pv 1)) pd_n)) (pp_c pe_int) (nomark _))
    (ss_1 (s_ret (pp_c pe_int)))
    ss_n)
    (ss_1 (s_ret (pp_ix rfl (pp_ix rfl (pp_v 1 (pv 1)) (pp_1 un_neg o_neg (pp_c pe_int)) (fun _ _ => rfl)) (pp_c pe_int) (fun _ _ => rfl))))))

theorem ok_l_ages {f : Addr} {fd : FuncData} (F : L2.Fun K "_law_ages" "_law_ages" s_l_ages f fd)
    (z_len : mg "len" = none)
    (z_tuple : mg "tuple" = none) :
    FnOk P w K mg base CX0 1 f fd ["steps", "ages", "sign"] (spP K ad 3 G_l_ages) :=
  ok0 (N := N_l_ages) (s := B_l_ages) F sc_l_ages rfl rfl fun cdv A outer s H E hr =>
    (ss_c (s_setC (i := 3) sc_l_ages.nd rfl (by first | exact Or.inl rfl | exact Or.inr rfl) (pp_lst pd_n))
    (ss_c (s_if (PW.pt (pp_wan (pp_tcmp (op_eqB hr.units) o_eq (pp_v 2 (pv 2)) (pp_c pe_str) (nomark _)) (pw_and1 (pp_tcmp op_gt o_gt (pp_B ob_len (c_lenA rfl) (by rfl) z_len (by decide +kernel) (pd_c (pp_lc (own := [("x", 4)]) (by rfl) sc_l_ages.nd (pi_t rfl (pp_v 1 (pv 1))) (blkOk_by (N := N_l_ages) (sc := defScope s_l_ages) (by decide +kernel)) (fun _ _ _ _ _ => (g_n (i := 4) sc_l_ages.nd rfl (by first | exact Or.inl rfl | exact Or.inr rfl))) (fun _ _ _ _ _ => (pts_1 (pp_tcmp (op_inB rfl) o_in (pp_2 op_add o_add (pp_v 4 (pv 4)) (pp_c pe_int)) (pp_v 0 (pv 0)) (by rfl)))) (fun _ _ _ _ _ => (pp_v 4 (pv 4)))) pd_n)) (pp_c pe_int) (nomark _)))))
    (ss_1 (s_ex (pp_bmL 3 rfl ol_app PySem.F.plainAttrs_list PySem.F.slot_list_append PySem.F.type_list_append mt_append (pv 3) (pd_c (pp_c pe_int) pd_n))))
    ss_n)
    (ss_c (s_for PassesOwn.never rfl (pi_t rfl (pp_v 1 (pv 1))) (g_n (i := 4) sc_l_ages.nd rfl (by first | exact Or.inl rfl | exact Or.inr rfl))
    (ss_1 (s_if (pp_tcmp op_lt o_lt (pp_2 op_add o_add (pp_v 4 (pv 4)) (pp_c pe_int)) (pp_ix rfl (pp_v 0 (pv 0)) (pp_1 un_neg o_neg (pp_c pe_int)) (fun _ _ => rfl)) (nomark _))
    (ss_1 (s_ex (pp_bmL 3 rfl ol_app PySem.F.plainAttrs_list PySem.F.slot_list_append PySem.F.type_list_append mt_append (pv 3) (pd_c (pp_2 op_add o_add (pp_v 4 (pv 4)) (pp_c pe_int)) pd_n))))
    ss_n)))
    (ss_1 (s_ret (pp_T ob_tup (c_tupA rfl) (by rfl) z_tuple (by decide +kernel) (pd_c (pp_f 3 (pv 3)) pd_n)))))))

theorem ok_l_longest {f : Addr} {fd : FuncData} (F : L2.Fun K "_law_longest" "_law_longest" s_l_longest f fd)
     :
    FnOk P w K mg base CX0 1 f fd ["kinds", "stretch"] (spP K ad 2 G_l_longest) :=
  ok0 (N := N_l_longest) (s := B_l_longest) F sc_l_longest rfl rfl fun cdv A outer s H E hr =>
    (ss_c (s_set (i := 2) sc_l_longest.nd rfl (by first | exact Or.inl rfl | exact Or.inr rfl) (pp_c pe_int))
    (ss_c (s_for PassesOwn.never rfl (pi_l rfl (pp_v 0 (pv 0))) (g_n (i := 3) sc_l_longest.nd rfl (by first | exact Or.inl rfl | exact Or.inr rfl))
    (ss_1 (s_if (PW.pt (pp_wan (pp_tcmp op_le o_le (pp_ix rfl (pp_v 3 (pv 3)) (pp_c pe_int) (fun _ _ => rfl)) (pp_v 1 (pv 1)) (nomark _)) (pw_and1 (pp_tcmp op_gt o_gt (pp_ix rfl (pp_v 3 (pv 3)) (pp_c pe_int) (fun _ _ => rfl)) (pp_v 2 (pv 2)) (nomark _)))))
    (ss_1 (s_set (i := 2) sc_l_longest.nd rfl (by first | exact Or.inl rfl | exact Or.inr rfl) (pp_ix rfl (pp_v 3 (pv 3)) (pp_c pe_int) (fun _ _ => rfl))))
    ss_n)))
    (ss_1 (s_ret (pp_v 2 (pv 2))))))

theorem ok_l_sky {f : Addr} {fd : FuncData} (F : L2.Fun K "_law_sky" "_law_sky" s_l_sky f fd)
    (z_min : mg "min" = none)
    {f_l_longest : Addr} {fd_l_longest : FuncData} (O_l_longest : FnOk P w K mg base CX0 1 f_l_longest fd_l_longest ["kinds", "stretch"] (spP K ad 2 G_l_longest)) (m_l_longest : mg "_law_longest" = some (.ref f_l_longest)) (k_l_longest : PySem.W.keepIn K (.ref f_l_longest) = true) (b_l_longest : Binds K fd_l_longest ["kinds", "stretch"] []) :
    FnOk P w K mg base CX0 2 f fd ["kinds", "cap", "sky", "sign"] (spP K ad 4 G_l_sky) :=
  ok0 (N := N_l_sky) (s := B_l_sky) F sc_l_sky rfl rfl fun cdv A outer s H E hr =>
    (ss_c (s_if (pp_tcmp (op_eqB hr.units) o_eq (pp_v 3 (pv 3)) (pp_c pe_str) (nomark _))
    (ss_c (s_if (pp_tcmp (op_eqB hr.units) o_eq (pp_ix rfl (pp_v 2 (pv 2)) (pp_c pe_int) (fun _ _ => rfl)) (pp_c pe_str) (nomark _))
    (ss_1 (s_ret (pp_tup (pd_c (pp_c pe_str) (pd_c (pp_B ob_min2 (OW.c_min2 rfl) (by rfl) z_min (by decide +kernel) (pd_c (pp_2 op_add o_add (pp_ix rfl (pp_v 2 (pv 2)) (pp_c pe_int) (fun _ _ => rfl)) (pp_c pe_int)) (pd_c (pp_v 1 (pv 1)) pd_n))) pd_n)))))
    ss_n)
    (ss_1 (s_ret (pp_tup (pd_c (pp_c pe_str) (pd_c (pp_c pe_int) pd_n))))))
    ss_n)
    (ss_c (s_set (i := 4) sc_l_sky.nd rfl (by first | exact Or.inl rfl | exact Or.inr rfl) (pp_ix rfl (pp_v 2 (pv 2)) (pp_c pe_int) (fun _ _ => rfl)))
    (ss_c (s_if (pp_tcmp (op_eqB hr.units) o_eq (pp_ix rfl (pp_v 2 (pv 2)) (pp_c pe_int) (fun _ _ => rfl)) (pp_c pe_str) (nomark _))
    (ss_1 (s_set (i := 4) sc_l_sky.nd rfl (by first | exact Or.inl rfl | exact Or.inr rfl) (pp_call O_l_longest (hr.mono (by decide)) (by rfl) m_l_longest k_l_longest b_l_longest .nil pass0 (pq_c (pp_v 0 (pv 0)) (pq_c (pp_ix rfl (pp_v 2 (pv 2)) (pp_c pe_int) (fun _ _ => rfl)) pq_n)) .nil)))
    ss_n)
    (ss_c (s_if (pp_tcmp op_lt o_lt (pp_v 4 (pv 4)) (pp_c pe_int) (nomark _))
    (ss_1 (s_ret (pp_c pe_non)))
    ss_n)
    (ss_1 (s_ret (pp_tup (pd_c (pp_c pe_str) (pd_c (pp_2 op_sub o_sub (pp_v 4 (pv 4)) (pp_c pe_int)) pd_n)))))))))

theorem ok_l_stand {f : Addr} {fd : FuncData} (F : L2.Fun K "_law_stand" "_law_stand" s_l_stand f fd)
    {f_l_ages : Addr} {fd_l_ages : FuncData} (O_l_ages : FnOk P w K mg base CX0 1 f_l_ages fd_l_ages ["steps", "ages", "sign"] (spP K ad 3 G_l_ages)) (m_l_ages : mg "_law_ages" = some (.ref f_l_ages)) (k_l_ages : PySem.W.keepIn K (.ref f_l_ages) = true) (b_l_ages : Binds K fd_l_ages ["steps", "ages", "sign"] [])
    {f_l_sky : Addr} {fd_l_sky : FuncData} (O_l_sky : FnOk P w K mg base CX0 2 f_l_sky fd_l_sky ["kinds", "cap", "sky", "sign"] (spP K ad 4 G_l_sky)) (m_l_sky : mg "_law_sky" = some (.ref f_l_sky)) (k_l_sky : PySem.W.keepIn K (.ref f_l_sky) = true) (b_l_sky : Binds K fd_l_sky ["kinds", "cap", "sky", "sign"] []) :
    FnOk P w K mg base CX0 3 f fd ["steps", "kinds", "cap", "stand", "sign"] (spP K ad 5 G_l_stand) :=
  ok0 (N := N_l_stand) (s := B_l_stand) F sc_l_stand rfl rfl fun cdv A outer s H E hr =>
    (ss_c (s_set (i := 5) sc_l_stand.nd rfl (by first | exact Or.inl rfl | exact Or.inr rfl) (pp_call O_l_sky (hr.mono (by decide)) (by rfl) m_l_sky k_l_sky b_l_sky .nil pass0 (pq_c (pp_v 1 (pv 1)) (pq_c (pp_v 2 (pv 2)) (pq_c (pp_ix rfl (pp_v 3 (pv 3)) (pp_c pe_int) (fun _ _ => rfl)) (pq_c (pp_v 4 (pv 4)) pq_n)))) .nil))
    (ss_c (s_if (pp_tcmp op_isNN o_is (pp_v 5 (pv 5)) (pp_c pe_non) (nomark _))
    (ss_1 (s_ret (pp_c pe_non)))
    ss_n)
    (ss_1 (s_ret (pp_tup (pd_c (pp_v 5 (pv 5)) (pd_c (pp_call O_l_ages (hr.mono (by decide)) (by rfl) m_l_ages k_l_ages b_l_ages .nil pass0 (pq_c (pp_v 0 (pv 0)) (pq_c (pp_ix rfl (pp_v 3 (pv 3)) (pp_c pe_int) (fun _ _ => rfl)) (pq_c (pp_v 4 (pv 4)) pq_n))) .nil) pd_n)))))))

theorem ok_l_odd_right {f : Addr} {fd : FuncData} (F : L2.Fun K "_law_odd_right" "_law_odd_right" s_l_odd_right f fd)
    {f_f_next_stand : Addr} {fd_f_next_stand : FuncData} (O_f_next_stand : FnOk P w K mg base CX0 4 f_f_next_stand fd_f_next_stand ["steps", "climate", "stand", "sign"] (spP K ad 4 G_f_next_stand)) (m_f_next_stand : mg "next_stand" = some (.ref f_f_next_stand)) (k_f_next_stand : PySem.W.keepIn K (.ref f_f_next_stand) = true) (b_f_next_stand : Binds K fd_f_next_stand ["steps", "climate", "stand", "sign"] [])
    {f_l_same : Addr} {fd_l_same : FuncData} (O_l_same : FnOk P w K mg base CX0 5 f_l_same fd_l_same ["actual", "due"] (spP K ad 2 G_l_same)) (m_l_same : mg "_law_same" = some (.ref f_l_same)) (k_l_same : PySem.W.keepIn K (.ref f_l_same) = true) (b_l_same : Binds K fd_l_same ["actual", "due"] [])
    {f_l_stand : Addr} {fd_l_stand : FuncData} (O_l_stand : FnOk P w K mg base CX0 3 f_l_stand fd_l_stand ["steps", "kinds", "cap", "stand", "sign"] (spP K ad 5 G_l_stand)) (m_l_stand : mg "_law_stand" = some (.ref f_l_stand)) (k_l_stand : PySem.W.keepIn K (.ref f_l_stand) = true) (b_l_stand : Binds K fd_l_stand ["steps", "kinds", "cap", "stand", "sign"] []) :
    FnOk P w K mg base CX0 6 f fd ["one", "steps", "kinds", "climate", "cap", "stand"] (spP K ad 6 G_l_odd_right) :=
  ok0 (N := N_l_odd_right) (s := B_l_odd_right) F sc_l_odd_right rfl rfl fun cdv A outer s H E hr =>
    (ss_c (s_for PassesOwn.never rfl (pi_l rfl (pp_lst (pd_c (pp_c pe_str) (pd_c (pp_c pe_str) pd_n)))) (g_n (i := 6) sc_l_odd_right.nd rfl (by first | exact Or.inl rfl | exact Or.inr rfl))
    (ss_1 (s_if (pp_tno (pp_tval (pp_call O_l_same (hr.mono (by decide)) (by rfl) m_l_same k_l_same b_l_same .nil pass0 (pq_c (pp_call O_f_next_stand (hr.mono (by decide)) (by rfl) m_f_next_stand k_f_next_stand b_f_next_stand .nil pass0 (pq_c (pp_v 0 (pv 0)) (pq_c (pp_v 3 (pv 3)) (pq_c (pp_v 5 (pv 5)) (pq_c (pp_v 6 (pv 6)) pq_n)))) .nil) (pq_c (pp_call O_l_stand (hr.mono (by decide)) (by rfl) m_l_stand k_l_stand b_l_stand .nil pass0 (pq_c (pp_v 1 (pv 1)) (pq_c (pp_v 2 (pv 2)) (pq_c (pp_v 4 (pv 4)) (pq_c (pp_v 5 (pv 5)) (pq_c (pp_v 6 (pv 6)) pq_n))))) .nil) pq_n)) .nil)))
    (ss_1 (s_ret (pp_c pe_bl)))
    ss_n)))
    (ss_1 (s_ret (pp_c pe_bl))))

theorem ok_Lacquer_init {f : Addr} {fd : FuncData} (F : L2.Fun K "__init__" "Lacquer.__init__" s_Lacquer_init f fd)
    (T_BadLacquer : S_BadLacquer K mg (ad .BadLacquer))
    (T_Lacquer : S_Lacquer K mg (ad .Lacquer)) :
    FnOk P w K mg base (L2.CX P w) 1 f fd ["self", "a", "b"] (spP K ad 3 G_Lacquer_init) :=
  okX (N := N_Lacquer_init) (s := B_Lacquer_init) F sc_Lacquer_init rfl rfl fun cdv A outer s H E hr =>
    (ss_c (s_if (pp_tno (pp_tch3 op_le op_lt op_le o_le o_lt o_le (pp_c pe_int) (pp_v 1 (pv 1)) (pp_v 2 (pv 2)) (pp_cval .Lacquer T_Lacquer.mg T_Lacquer.cr T_Lacquer.v_MOST)))
    (ss_1 (s_raise1 .BadLacquer rfl (takes_of rfl rfl rfl rfl) PySem.F.excBase_ValueError T_BadLacquer.x T_BadLacquer.mg T_BadLacquer.kp (raises_own T_BadLacquer.b T_BadLacquer.t) rfl (pp_joined (.cons (pp_c pe_str) (.cons (pp_fmt (pp_v 1 (pv 1))) (.cons (pp_c pe_str) (.cons (pp_fmt (pp_v 2 (pv 2))) .nil)))))))
    ss_n)
    (ss_c (s_fld .Lacquer 0 rfl T_Lacquer.cl T_Lacquer.n_a (pv 0) (pp_v 1 (pv 1)))
    (ss_1 (s_fld .Lacquer 0 rfl T_Lacquer.cl T_Lacquer.n_b (pv 0) (pp_v 2 (pv 2))))))

theorem ok_StepSet_of {f : Addr} {fd : FuncData} (F : L2.Fun K "of" "StepSet.of" s_StepSet_of f fd)
    (T_Lacquer : S_Lacquer K mg (ad .Lacquer))
    (T_StepSet : S_StepSet K mg (ad .StepSet))
    (T_TooLarge : S_TooLarge K mg (ad .TooLarge))
    (z_list : mg "list" = none)
    (z_range : mg "range" = none)
    (g_MOST_STEP : ∃ u, mg "MOST_STEP" = some u ∧ RelV (.int 8) u)
    {f_StepSet_init : Addr} {fd_StepSet_init : FuncData} (O_StepSet_init : FnOk P w K mg base (L2.CX P w) 1 f_StepSet_init fd_StepSet_init ["self", "steps"] (spP K ad 2 G_StepSet_init)) (b_StepSet_init : Binds K fd_StepSet_init ["self", "steps"] []) (I_StepSet : Mk K (ad .StepSet) f_StepSet_init) :
    FnOk P w K mg base (L2.CX P w) 3 f fd ["lacquer"] (spP K ad 1 G_StepSet_of) :=
  okX (N := N_StepSet_of) (s := B_StepSet_of) F sc_StepSet_of rfl rfl fun cdv A outer s H E hr =>
    (ss_c (s_if (pp_tcmp op_gt o_gt (pp_fld .Lacquer 1 rfl T_Lacquer.cl T_Lacquer.n_b (pp_v 0 (pv 0))) (pp_c (C8.pe_gc (by rfl) g_MOST_STEP)) (nomark _))
    (ss_1 (s_raise1 .TooLarge rfl (takes_of rfl rfl rfl rfl) PySem.F.excBase_ValueError T_TooLarge.x T_TooLarge.mg T_TooLarge.kp (raises_own T_TooLarge.b T_TooLarge.t) rfl (pp_joined (.cons (pp_c pe_str) (.cons (pp_fmt (pp_c (C8.pe_gc (by rfl) g_MOST_STEP))) (.cons (pp_c pe_str) .nil))))))
    ss_n)
    (ss_1 (s_ret (pp_makeS .StepSet I_StepSet O_StepSet_init (takes_of rfl rfl rfl rfl) (hr.mono (by decide)) (by rfl) T_StepSet.mg b_StepSet_init .nil (pq_c (pp_lstRg rfl rfl (by rfl) z_list (by rfl) z_range (pp_fld .Lacquer 0 rfl T_Lacquer.cl T_Lacquer.n_a (pp_v 0 (pv 0))) (pp_2 op_add o_add (pp_fld .Lacquer 1 rfl T_Lacquer.cl T_Lacquer.n_b (pp_v 0 (pv 0))) (pp_c pe_int))) pq_n) .nil))))

theorem ok_l_of {f : Addr} {fd : FuncData} (F : L2.Fun K "_law_of" "_law_of" s_l_of f fd)
    (T_BadKind : S_BadKind K mg (ad .BadKind))
    (T_BadLacquer : S_BadLacquer K mg (ad .BadLacquer))
    (T_BadSteps : S_BadSteps K mg (ad .BadSteps))
    (T_DampError : S_DampError K mg (ad .DampError))
    (T_Lacquer : S_Lacquer K mg (ad .Lacquer))
    (T_StepSet : S_StepSet K mg (ad .StepSet))
    (T_TooLarge : S_TooLarge K mg (ad .TooLarge))
    (z_ValueError : mg "ValueError" = none)
    (z_isinstance : mg "isinstance" = none)
    (z_range : mg "range" = none)
    (kit_TooLarge_BadSteps : PySem.W.kitOne K (.ref (ad .TooLarge)) (.ref (ad .BadSteps)) = some false)
    (kit_TooLarge_DampError : PySem.W.kitOne K (.ref (ad .TooLarge)) (.ref (ad .DampError)) = some true)
    (kit_TooLarge_ValueError : PySem.W.kitOne K (.ref (ad .TooLarge)) (.type "ValueError") = some true)
    (xm_BadKind_TooLarge : PySem.W.exmOne K (.ref (ad .BadKind)) (.ref (ad .TooLarge)) = some false)
    (xm_BadLacquer_TooLarge : PySem.W.exmOne K (.ref (ad .BadLacquer)) (.ref (ad .TooLarge)) = some false)
    (xm_BadSteps_TooLarge : PySem.W.exmOne K (.ref (ad .BadSteps)) (.ref (ad .TooLarge)) = some false)
    (xm_DampError_TooLarge : PySem.W.exmOne K (.ref (ad .DampError)) (.ref (ad .TooLarge)) = some false)
    (xm_TooLarge_TooLarge : PySem.W.exmOne K (.ref (ad .TooLarge)) (.ref (ad .TooLarge)) = some true)
    {f_l_is : Addr} {fd_l_is : FuncData} (O_l_is : FnOk P w K mg base CX0 6 f_l_is fd_l_is ["thing", "steps"] (spP K ad 2 G_l_is)) (m_l_is : mg "_law_is" = some (.ref f_l_is)) (k_l_is : PySem.W.keepIn K (.ref f_l_is) = true) (b_l_is : Binds K fd_l_is ["thing", "steps"] [])
    {f_Lacquer_init : Addr} {fd_Lacquer_init : FuncData} (O_Lacquer_init : FnOk P w K mg base (L2.CX P w) 1 f_Lacquer_init fd_Lacquer_init ["self", "a", "b"] (spP K ad 3 G_Lacquer_init)) (b_Lacquer_init : Binds K fd_Lacquer_init ["self", "a", "b"] []) (I_Lacquer : Mk K (ad .Lacquer) f_Lacquer_init)
    {f_StepSet_of : Addr} {fd_StepSet_of : FuncData} (O_StepSet_of : FnOk P w K mg base (L2.CX P w) 3 f_StepSet_of fd_StepSet_of ["lacquer"] (spP K ad 1 G_StepSet_of)) (b_StepSet_of : Binds K fd_StepSet_of ["lacquer"] []) {p_StepSet_of : Addr} (SM_StepSet_of : SMet K (ad .StepSet) (.type "type") "of" p_StepSet_of f_StepSet_of) (k_StepSet_of : PySem.W.keepIn K (.ref f_StepSet_of) = true) :
    FnOk P w K mg base CX0 7 f fd ["ab"] (spP K ad 1 G_l_of) :=
  ok0 (N := N_l_of) (s := B_l_of) F sc_l_of rfl rfl fun cdv A outer s H E hr =>
    (ss_c (s_set (i := 1) sc_l_of.nd rfl (by first | exact Or.inl rfl | exact Or.inr rfl) (pp_c pe_str))
    (ss_c (s_set (i := 2) sc_l_of.nd rfl (by first | exact Or.inl rfl | exact Or.inr rfl) (pp_c pe_non))
    (ss_c (s_set (i := 3) sc_l_of.nd rfl (by first | exact Or.inl rfl | exact Or.inr rfl) (pp_c pe_bl))
    (ss_c (s_tryA (i := 4) rfl rfl rfl sc_l_of.nd rfl rfl ⟨rfl, by decide, (.inl T_TooLarge.mg)⟩ takes0 (.cons xm_DampError_TooLarge (.cons xm_BadLacquer_TooLarge (.cons xm_BadKind_TooLarge (.cons xm_BadSteps_TooLarge (.cons xm_TooLarge_TooLarge .nil)))))
    (fun W pn xe tk po => (ss_1 (s_set (i := 2) sc_l_of.nd rfl (by first | exact Or.inl rfl | exact Or.inr rfl) (pp_smS .StepSet (C8.pe_gc (v := .ref (ad .StepSet)) (by rfl) ⟨_, T_StepSet.mg, rfl⟩) T_StepSet.cr SM_StepSet_of k_StepSet_of O_StepSet_of tk (hr.mono (by decide)) b_StepSet_of (pq_c (pp_makeS .Lacquer I_Lacquer O_Lacquer_init tk (hr.mono (by decide)) (by rfl) T_Lacquer.mg b_Lacquer_init .nil (pq_c (pp_ix rfl (pp_v 0 (pv 0)) (pp_c pe_int) (fun _ _ => rfl)) (pq_c (pp_ix rfl (pp_v 0 (pv 0)) (pp_c pe_int) (fun _ _ => rfl)) pq_n)) .nil) pq_n)))))
    (fun a oe cls d pn hz hf => (ss_c (s_set (i := 1) sc_l_of.nd rfl (by first | exact Or.inl rfl | exact Or.inr rfl) (pp_c pe_str))
    (ss_1 (s_set (i := 3) sc_l_of.nd rfl (by first | exact Or.inl rfl | exact Or.inr rfl) (pp_van (pp_isE 4 rfl hz hf (.o kit_TooLarge_DampError T_TooLarge.ex .nil) (fun _ h => ClsV.eq ((.own _)) h) (by rfl) z_isinstance (pv 4) (C8.pe_gc (v := .ref (ad .DampError)) (by rfl) ⟨_, T_DampError.mg, rfl⟩)) (pp_van (pp_isE 4 rfl hz hf (.o kit_TooLarge_ValueError T_TooLarge.ex .nil) (fun _ h => ClsV.eq ((.ty _)) h) (by rfl) z_isinstance (pv 4) (pe_bltn (v := .ty "ValueError") (by rfl) z_ValueError (by decide +kernel) rfl)) (pe_one (pp_vno (pp_isE 4 rfl hz hf (.o kit_TooLarge_BadSteps T_TooLarge.ex .nil) (fun _ h => ClsV.eq ((.own _)) h) (by rfl) z_isinstance (pv 4) (C8.pe_gc (v := .ref (ad .BadSteps)) (by rfl) ⟨_, T_BadSteps.mg, rfl⟩)))))))))))
    (ss_c (s_if (pp_tcmp op_gt o_gt (pp_ix rfl (pp_v 0 (pv 0)) (pp_c pe_int) (fun _ _ => rfl)) (pp_c pe_int) (nomark _))
    (ss_1 (s_ret (pp_van (pp_cmp (op_eqB hr.units) o_eq (pp_v 1 (pv 1)) (pp_c pe_str) (nomark _)) (pe_one (pp_v 3 (pv 3))))))
    ss_n)
    (ss_1 (s_ret (pp_van (pp_cmp (op_eqB hr.units) o_eq (pp_v 1 (pv 1)) (pp_c pe_str) (nomark _)) (pe_one (pp_call O_l_is (hr.mono (by decide)) (by rfl) m_l_is k_l_is b_l_is .nil pass0 (pq_c (pp_v 2 (pv 2)) (pq_c (pp_lc (own := [("step", 5)]) (by rfl) sc_l_of.nd (pi_r2 (by rfl) z_range (pp_ix rfl (pp_v 0 (pv 0)) (pp_c pe_int) (fun _ _ => rfl)) (pp_2 op_add o_add (pp_ix rfl (pp_v 0 (pv 0)) (pp_c pe_int) (fun _ _ => rfl)) (pp_c pe_int))) (blkOk_by (N := N_l_of) (sc := defScope s_l_of) (by decide +kernel)) (fun _ _ _ _ _ => (g_n (i := 5) sc_l_of.nd rfl (by first | exact Or.inl rfl | exact Or.inr rfl))) (fun _ _ _ _ _ => pts_n) (fun _ _ _ _ _ => (pp_v 5 (pv 5)))) pq_n)) .nil))))))))))

theorem ok_l_pool {f : Addr} {fd : FuncData} (F : L2.Fun K "_law_pool" "_law_pool" s_l_pool f fd)
    (z_int : mg "int" = none) :
    FnOk P w K mg base CX0 1 f fd ["cell"] (spP K ad 1 G_l_pool) :=
  ok0 (N := N_l_pool) (s := B_l_pool) F sc_l_pool rfl rfl fun cdv A outer s H E hr =>
    (ss_c (s_if (pp_tcmp op_ge o_ge (pp_v 0 (pv 0)) (pp_2 op_pow o_pow (pp_c pe_int) (pp_c pe_int)) (nomark _))
    (ss_1 (s_ret (pp_lst (pd_c (pp_2 op_sub o_sub (pp_v 0 (pv 0)) (pp_2 op_pow o_pow (pp_c pe_int) (pp_c pe_int))) (pd_c (pp_2 op_mod o_mod (pp_T ob_int OW.c_int1 (by rfl) z_int (by decide +kernel) (pd_c (pp_v 0 (pv 0)) pd_n)) (pp_c pe_int)) (pd_c (pp_c pe_int) pd_n))))))
    ss_n)
    (ss_c (s_if (pp_tcmp op_lt o_lt (pp_v 0 (pv 0)) (pp_c pe_int) (nomark _))
    (ss_1 (s_ret (pp_lst (pd_c (pp_c pe_int) (pd_c (pp_2 op_mod o_mod (pp_T ob_int OW.c_int1 (by rfl) z_int (by decide +kernel) (pd_c (pp_2 op_sub o_sub (pp_c pe_int) (pp_2 op_mulB o_mul (pp_c pe_int) (pp_v 0 (pv 0)))) pd_n)) (pp_c pe_int)) (pd_c (pp_c pe_int) pd_n))))))
    ss_n)
    (ss_1 (s_ret (pp_lst (pd_c (pp_c pe_int) (pd_c (pp_2 op_mod o_mod (pp_T ob_int OW.c_int1 (by rfl) z_int (by decide +kernel) (pd_c (pp_2 op_mulB o_mul (pp_c pe_int) (pp_v 0 (pv 0))) pd_n)) (pp_c pe_int)) (pd_c (pp_c pe_int) pd_n))))))))

theorem ok_l_signs_of {f : Addr} {fd : FuncData} (F : L2.Fun K "_law_signs_of" "_law_signs_of" s_l_signs_of f fd)
    (z_range : mg "range" = none)
    {f_l_longest : Addr} {fd_l_longest : FuncData} (O_l_longest : FnOk P w K mg base CX0 1 f_l_longest fd_l_longest ["kinds", "stretch"] (spP K ad 2 G_l_longest)) (m_l_longest : mg "_law_longest" = some (.ref f_l_longest)) (k_l_longest : PySem.W.keepIn K (.ref f_l_longest) = true) (b_l_longest : Binds K fd_l_longest ["kinds", "stretch"] [])
    {f_l_take : Addr} {fd_l_take : FuncData} (O_l_take : FnOk P w K mg base CX0 1 f_l_take fd_l_take ["pool", "size"] (spP K ad 2 G_l_take)) (m_l_take : mg "_law_take" = some (.ref f_l_take)) (k_l_take : PySem.W.keepIn K (.ref f_l_take) = true) (b_l_take : Binds K fd_l_take ["pool", "size"] []) :
    FnOk P w K mg base CX0 2 f fd ["pool", "kinds", "hours"] (spP K ad 3 G_l_signs_of) :=
  ok0 (N := N_l_signs_of) (s := B_l_signs_of) F sc_l_signs_of rfl rfl fun cdv A outer s H E hr =>
    (ss_c (s_set (i := 3) sc_l_signs_of.nd rfl (by first | exact Or.inl rfl | exact Or.inr rfl) (pp_c pe_str))
    (ss_c (s_set (i := 4) sc_l_signs_of.nd rfl (by first | exact Or.inl rfl | exact Or.inr rfl) (pp_call O_l_take (hr.mono (by decide)) (by rfl) m_l_take k_l_take b_l_take .nil pass0 (pq_k 0 (pv 0) (pq_c (pp_c pe_int) pq_n)) .nil))
    (ss_c (s_set (i := 5) sc_l_signs_of.nd rfl (by first | exact Or.inl rfl | exact Or.inr rfl) (pp_c pe_int))
    (ss_c (s_set (i := 6) sc_l_signs_of.nd rfl (by first | exact Or.inl rfl | exact Or.inr rfl) (pp_c pe_int))
    (ss_c (s_for PassesOwn.never rfl (pi_r1 (by rfl) z_range (pp_2 op_sub o_sub (pp_v 2 (pv 2)) (pp_c pe_int))) (g_n (i := 7) sc_l_signs_of.nd rfl (by first | exact Or.inl rfl | exact Or.inr rfl))
    (ss_c (s_set (i := 8) sc_l_signs_of.nd rfl (by first | exact Or.inl rfl | exact Or.inr rfl) (pp_v 6 (pv 6)))
    (ss_c (s_if (pp_tcmp op_gt o_gt (pp_v 5 (pv 5)) (pp_c pe_int) (nomark _))
    (ss_1 (s_set (i := 8) sc_l_signs_of.nd rfl (by first | exact Or.inl rfl | exact Or.inr rfl) (pp_call O_l_longest (hr.mono (by decide)) (by rfl) m_l_longest k_l_longest b_l_longest .nil pass0 (pq_c (pp_v 1 (pv 1)) (pq_c (pp_v 5 (pv 5)) pq_n)) .nil)))
    ss_n)
    (ss_c (s_set (i := 9) sc_l_signs_of.nd rfl (by first | exact Or.inl rfl | exact Or.inr rfl) (pp_c pe_bl))
    (ss_c (s_if (PW.pt (pp_wan (pp_tcmp op_gt o_gt (pp_v 8 (pv 8)) (pp_c pe_int) (nomark _)) (pw_and1 (pp_tcmp (op_eqB hr.units) o_eq (pp_v 4 (pv 4)) (pp_c pe_int) (nomark _)))))
    (ss_1 (s_set (i := 9) sc_l_signs_of.nd rfl (by first | exact Or.inl rfl | exact Or.inr rfl) (pp_cmp (op_eqB hr.units) o_eq (pp_call O_l_take (hr.mono (by decide)) (by rfl) m_l_take k_l_take b_l_take .nil pass0 (pq_k 0 (pv 0) (pq_c (pp_c pe_int) pq_n)) .nil) (pp_c pe_int) (nomark _))))
    (ss_1 (s_if (PW.pt (pp_wan (pp_tcmp op_gt o_gt (pp_v 8 (pv 8)) (pp_c pe_int) (nomark _)) (pw_and1 (pp_tcmp (op_eqB hr.units) o_eq (pp_v 4 (pv 4)) (pp_c pe_int) (nomark _)))))
    (ss_1 (s_set (i := 9) sc_l_signs_of.nd rfl (by first | exact Or.inl rfl | exact Or.inr rfl) (pp_cmp (op_eqB hr.units) o_eq (pp_call O_l_take (hr.mono (by decide)) (by rfl) m_l_take k_l_take b_l_take .nil pass0 (pq_k 0 (pv 0) (pq_c (pp_c pe_int) pq_n)) .nil) (pp_c pe_int) (nomark _))))
    (ss_1 (s_if (PW.pt (pp_wan (pp_tcmp op_gt o_gt (pp_v 8 (pv 8)) (pp_c pe_int) (nomark _)) (pw_and1 (pp_tcmp op_gt o_gt (pp_v 5 (pv 5)) (pp_c pe_int) (nomark _)))))
    (ss_1 (s_set (i := 9) sc_l_signs_of.nd rfl (by first | exact Or.inl rfl | exact Or.inr rfl) (pp_cmp (op_eqB hr.units) o_eq (pp_call O_l_take (hr.mono (by decide)) (by rfl) m_l_take k_l_take b_l_take .nil pass0 (pq_k 0 (pv 0) (pq_c (pp_c pe_int) pq_n)) .nil) (pp_c pe_int) (nomark _))))
    (ss_1 (s_if (pp_tcmp op_gt o_gt (pp_v 8 (pv 8)) (pp_c pe_int) (nomark _))
    (ss_1 (s_set (i := 9) sc_l_signs_of.nd rfl (by first | exact Or.inl rfl | exact Or.inr rfl) (pp_cmp op_gt o_gt (pp_call O_l_take (hr.mono (by decide)) (by rfl) m_l_take k_l_take b_l_take .nil pass0 (pq_k 0 (pv 0) (pq_c (pp_c pe_int) pq_n)) .nil) (pp_c pe_int) (nomark _))))
    ss_n)))))))
    (ss_1 (s_if (pp_tval (pp_v 9 (pv 9)))
    (ss_c (s_set (i := 3) sc_l_signs_of.nd rfl (by first | exact Or.inl rfl | exact Or.inr rfl) (pp_2 op_addSS o_addS (pp_v 3 (pv 3)) (pp_c pe_str)))
    (ss_c (s_set (i := 5) sc_l_signs_of.nd rfl (by first | exact Or.inl rfl | exact Or.inr rfl) (pp_c pe_int))
    (ss_1 (s_set (i := 6) sc_l_signs_of.nd rfl (by first | exact Or.inl rfl | exact Or.inr rfl) (pp_2 op_sub o_sub (pp_v 8 (pv 8)) (pp_c pe_int))))))
    (ss_c (s_set (i := 3) sc_l_signs_of.nd rfl (by first | exact Or.inl rfl | exact Or.inr rfl) (pp_2 op_addSS o_addS (pp_v 3 (pv 3)) (pp_c pe_str)))
    (ss_1 (s_set (i := 5) sc_l_signs_of.nd rfl (by first | exact Or.inl rfl | exact Or.inr rfl) (pp_2 op_add o_add (pp_v 5 (pv 5)) (pp_c pe_int))))))))))))
    (ss_1 (s_ret (pp_v 3 (pv 3)))))))))

theorem ok_l_some_stand {f : Addr} {fd : FuncData} (F : L2.Fun K "_law_some_stand" "_law_some_stand" s_l_some_stand f fd)
    (z_len : mg "len" = none)
    (z_max : mg "max" = none)
    (z_range : mg "range" = none)
    (z_tuple : mg "tuple" = none)
    {f_l_take : Addr} {fd_l_take : FuncData} (O_l_take : FnOk P w K mg base CX0 1 f_l_take fd_l_take ["pool", "size"] (spP K ad 2 G_l_take)) (m_l_take : mg "_law_take" = some (.ref f_l_take)) (k_l_take : PySem.W.keepIn K (.ref f_l_take) = true) (b_l_take : Binds K fd_l_take ["pool", "size"] []) :
    FnOk P w K mg base CX0 2 f fd ["pool", "kinds", "cap", "farthest"] (spP K ad 4 G_l_some_stand) :=
  ok0 (N := N_l_some_stand) (s := B_l_some_stand) F sc_l_some_stand rfl rfl fun cdv A outer s H E hr =>
    (ss_c (s_set (i := 4) sc_l_some_stand.nd rfl (by first | exact Or.inl rfl | exact Or.inr rfl) (pp_tup (pd_c (pp_c pe_str) (pd_c (pp_2 op_add o_add (pp_c pe_int) (pp_call O_l_take (hr.mono (by decide)) (by rfl) m_l_take k_l_take b_l_take .nil pass0 (pq_k 0 (pv 0) (pq_c (pp_v 2 (pv 2)) pq_n)) .nil)) pd_n))))
    (ss_c (s_if (PW.pt (pp_wan (pp_tcmp op_gt o_gt (pp_B ob_len (c_lenA rfl) (by rfl) z_len (by decide +kernel) (pd_c (pp_v 1 (pv 1)) pd_n)) (pp_c pe_int) (nomark _)) (pw_and1 (pp_tcmp (op_eqB hr.units) o_eq (pp_call O_l_take (hr.mono (by decide)) (by rfl) m_l_take k_l_take b_l_take .nil pass0 (pq_k 0 (pv 0) (pq_c (pp_c pe_int) pq_n)) .nil) (pp_c pe_int) (nomark _)))))
    (ss_1 (s_set (i := 4) sc_l_some_stand.nd rfl (by first | exact Or.inl rfl | exact Or.inr rfl) (pp_tup (pd_c (pp_c pe_str) (pd_c (pp_call O_l_take (hr.mono (by decide)) (by rfl) m_l_take k_l_take b_l_take .nil pass0 (pq_k 0 (pv 0) (pq_c (pp_B ob_maxL (cr_max rfl) (by rfl) z_max (by decide +kernel) (pd_c (pp_lc (own := [("kind", 6)]) (by rfl) sc_l_some_stand.nd (pi_l rfl (pp_v 1 (pv 1))) (blkOk_by (N := N_l_some_stand) (sc := defScope s_l_some_stand) (by decide +kernel)) (fun _ _ _ _ _ => (g_n (i := 6) sc_l_some_stand.nd rfl (by first | exact Or.inl rfl | exact Or.inr rfl))) (fun _ _ _ _ _ => pts_n) (fun _ _ _ _ _ => (pp_ix rfl (pp_v 6 (pv 6)) (pp_c pe_int) (fun _ _ => rfl)))) pd_n)) pq_n)) .nil) pd_n)))))
    ss_n)
    (ss_c (s_setLc (i := 5) (own := [("x", 7)]) (by rfl) sc_l_some_stand.nd rfl rfl (sw_true rfl rfl rfl (by decide +kernel)) (pi_r1 (by rfl) z_range (pp_v 3 (pv 3))) (blkOk_by (N := N_l_some_stand) (sc := defScope s_l_some_stand) (by decide +kernel)) (fun _ _ _ _ _ => (g_n (i := 7) sc_l_some_stand.nd rfl (by first | exact Or.inl rfl | exact Or.inr rfl))) (fun _ _ _ _ _ => (pts_1 (pp_tcmp (op_eqB hr.units) o_eq (pp_call O_l_take (hr.mono (by decide)) (by rfl) m_l_take k_l_take b_l_take .nil pass0 (pq_k 0 (pv 0) (pq_c (pp_c pe_int) pq_n)) .nil) (pp_c pe_int) (nomark _)))) (fun _ _ _ _ _ => (pp_v 7 (pv 7))))
    (ss_1 (s_ret (pp_tup (pd_c (pp_v 4 (pv 4)) (pd_c (pp_T ob_tup (c_tupA rfl) (by rfl) z_tuple (by decide +kernel) (pd_c (pp_v 5 (pv 5)) pd_n)) pd_n))))))))

theorem ok_l_law {f : Addr} {fd : FuncData} (F : L2.Fun K "law" "law" s_l_law f fd)
    (T_Climate : S_Climate K mg (ad .Climate))
    (T_StepSet : S_StepSet K mg (ad .StepSet))
    (z_len : mg "len" = none)
    (z_list : mg "list" = none)
    (z_max : mg "max" = none)
    (z_range : mg "range" = none)
    {f_f_first_stand : Addr} {fd_f_first_stand : FuncData} (O_f_first_stand : FnOk P w K mg base CX0 1 f_f_first_stand fd_f_first_stand [] (spP K ad 0 G_f_first_stand)) (m_f_first_stand : mg "first_stand" = some (.ref f_f_first_stand)) (k_f_first_stand : PySem.W.keepIn K (.ref f_f_first_stand) = true) (b_f_first_stand : Binds K fd_f_first_stand [] [])
    {f_f_next_stand : Addr} {fd_f_next_stand : FuncData} (O_f_next_stand : FnOk P w K mg base CX0 4 f_f_next_stand fd_f_next_stand ["steps", "climate", "stand", "sign"] (spP K ad 4 G_f_next_stand)) (m_f_next_stand : mg "next_stand" = some (.ref f_f_next_stand)) (k_f_next_stand : PySem.W.keepIn K (.ref f_f_next_stand) = true) (b_f_next_stand : Binds K fd_f_next_stand ["steps", "climate", "stand", "sign"] [])
    {f_l_ab : Addr} {fd_l_ab : FuncData} (O_l_ab : FnOk P w K mg base CX0 2 f_l_ab fd_l_ab ["pool", "most"] (spP K ad 2 G_l_ab)) (m_l_ab : mg "_law_ab" = some (.ref f_l_ab)) (k_l_ab : PySem.W.keepIn K (.ref f_l_ab) = true) (b_l_ab : Binds K fd_l_ab ["pool", "most"] [])
    {f_l_cell : Addr} {fd_l_cell : FuncData} (O_l_cell : FnOk P w K mg base CX0 1 f_l_cell fd_l_cell ["script", "k"] (spP K ad 2 G_l_cell)) (m_l_cell : mg "_law_cell" = some (.ref f_l_cell)) (k_l_cell : PySem.W.keepIn K (.ref f_l_cell) = true) (b_l_cell : Binds K fd_l_cell ["script", "k"] [])
    {f_l_is : Addr} {fd_l_is : FuncData} (O_l_is : FnOk P w K mg base CX0 6 f_l_is fd_l_is ["thing", "steps"] (spP K ad 2 G_l_is)) (m_l_is : mg "_law_is" = some (.ref f_l_is)) (k_l_is : PySem.W.keepIn K (.ref f_l_is) = true) (b_l_is : Binds K fd_l_is ["thing", "steps"] [])
    {f_l_items : Addr} {fd_l_items : FuncData} (O_l_items : FnOk P w K mg base CX0 2 f_l_items fd_l_items ["pool"] (spP K ad 1 G_l_items)) (m_l_items : mg "_law_items" = some (.ref f_l_items)) (k_l_items : PySem.W.keepIn K (.ref f_l_items) = true) (b_l_items : Binds K fd_l_items ["pool"] [])
    {f_l_kinds : Addr} {fd_l_kinds : FuncData} (O_l_kinds : FnOk P w K mg base CX0 2 f_l_kinds fd_l_kinds ["pool", "most", "peak", "need"] (spP K ad 4 G_l_kinds)) (m_l_kinds : mg "_law_kinds" = some (.ref f_l_kinds)) (k_l_kinds : PySem.W.keepIn K (.ref f_l_kinds) = true) (b_l_kinds : Binds K fd_l_kinds ["pool", "most", "peak", "need"] [])
    {f_l_made : Addr} {fd_l_made : FuncData} (O_l_made : FnOk P w K mg base CX0 3 f_l_made fd_l_made ["items"] (spP K ad 1 G_l_made)) (m_l_made : mg "_law_made" = some (.ref f_l_made)) (k_l_made : PySem.W.keepIn K (.ref f_l_made) = true) (b_l_made : Binds K fd_l_made ["items"] [])
    {f_l_need : Addr} {fd_l_need : FuncData} (O_l_need : FnOk P w K mg base CX0 3 f_l_need fd_l_need ["kinds"] (spP K ad 1 G_l_need)) (m_l_need : mg "_law_need" = some (.ref f_l_need)) (k_l_need : PySem.W.keepIn K (.ref f_l_need) = true) (b_l_need : Binds K fd_l_need ["kinds"] [])
    {f_l_odd_right : Addr} {fd_l_odd_right : FuncData} (O_l_odd_right : FnOk P w K mg base CX0 6 f_l_odd_right fd_l_odd_right ["one", "steps", "kinds", "climate", "cap", "stand"] (spP K ad 6 G_l_odd_right)) (m_l_odd_right : mg "_law_odd_right" = some (.ref f_l_odd_right)) (k_l_odd_right : PySem.W.keepIn K (.ref f_l_odd_right) = true) (b_l_odd_right : Binds K fd_l_odd_right ["one", "steps", "kinds", "climate", "cap", "stand"] [])
    {f_l_of : Addr} {fd_l_of : FuncData} (O_l_of : FnOk P w K mg base CX0 7 f_l_of fd_l_of ["ab"] (spP K ad 1 G_l_of)) (m_l_of : mg "_law_of" = some (.ref f_l_of)) (k_l_of : PySem.W.keepIn K (.ref f_l_of) = true) (b_l_of : Binds K fd_l_of ["ab"] [])
    {f_l_pool : Addr} {fd_l_pool : FuncData} (O_l_pool : FnOk P w K mg base CX0 1 f_l_pool fd_l_pool ["cell"] (spP K ad 1 G_l_pool)) (m_l_pool : mg "_law_pool" = some (.ref f_l_pool)) (k_l_pool : PySem.W.keepIn K (.ref f_l_pool) = true) (b_l_pool : Binds K fd_l_pool ["cell"] [])
    {f_l_same : Addr} {fd_l_same : FuncData} (O_l_same : FnOk P w K mg base CX0 5 f_l_same fd_l_same ["actual", "due"] (spP K ad 2 G_l_same)) (m_l_same : mg "_law_same" = some (.ref f_l_same)) (k_l_same : PySem.W.keepIn K (.ref f_l_same) = true) (b_l_same : Binds K fd_l_same ["actual", "due"] [])
    {f_l_signs_of : Addr} {fd_l_signs_of : FuncData} (O_l_signs_of : FnOk P w K mg base CX0 2 f_l_signs_of fd_l_signs_of ["pool", "kinds", "hours"] (spP K ad 3 G_l_signs_of)) (m_l_signs_of : mg "_law_signs_of" = some (.ref f_l_signs_of)) (k_l_signs_of : PySem.W.keepIn K (.ref f_l_signs_of) = true) (b_l_signs_of : Binds K fd_l_signs_of ["pool", "kinds", "hours"] [])
    {f_l_some_stand : Addr} {fd_l_some_stand : FuncData} (O_l_some_stand : FnOk P w K mg base CX0 2 f_l_some_stand fd_l_some_stand ["pool", "kinds", "cap", "farthest"] (spP K ad 4 G_l_some_stand)) (m_l_some_stand : mg "_law_some_stand" = some (.ref f_l_some_stand)) (k_l_some_stand : PySem.W.keepIn K (.ref f_l_some_stand) = true) (b_l_some_stand : Binds K fd_l_some_stand ["pool", "kinds", "cap", "farthest"] [])
    {f_l_stand : Addr} {fd_l_stand : FuncData} (O_l_stand : FnOk P w K mg base CX0 3 f_l_stand fd_l_stand ["steps", "kinds", "cap", "stand", "sign"] (spP K ad 5 G_l_stand)) (m_l_stand : mg "_law_stand" = some (.ref f_l_stand)) (k_l_stand : PySem.W.keepIn K (.ref f_l_stand) = true) (b_l_stand : Binds K fd_l_stand ["steps", "kinds", "cap", "stand", "sign"] [])
    {f_l_take : Addr} {fd_l_take : FuncData} (O_l_take : FnOk P w K mg base CX0 1 f_l_take fd_l_take ["pool", "size"] (spP K ad 2 G_l_take)) (m_l_take : mg "_law_take" = some (.ref f_l_take)) (k_l_take : PySem.W.keepIn K (.ref f_l_take) = true) (b_l_take : Binds K fd_l_take ["pool", "size"] [])
    {f_Climate_init : Addr} {fd_Climate_init : FuncData} (O_Climate_init : FnOk P w K mg base (L2.CX P w) 3 f_Climate_init fd_Climate_init ["self", "kinds"] (spP K ad 2 G_Climate_init)) (b_Climate_init : Binds K fd_Climate_init ["self", "kinds"] []) (I_Climate : Mk K (ad .Climate) f_Climate_init)
    {f_StepSet_eq : Addr} {fd_StepSet_eq : FuncData} (O_StepSet_eq : FnOk P w K mg base CX0 1 f_StepSet_eq fd_StepSet_eq ["self", "other"] (spP K ad 2 G_StepSet_eq)) (b_StepSet_eq : Binds K fd_StepSet_eq ["self", "other"] []) (M_StepSet_eq : Meth K (ad .StepSet) "__eq__" f_StepSet_eq)
    {f_StepSet_init : Addr} {fd_StepSet_init : FuncData} (O_StepSet_init : FnOk P w K mg base (L2.CX P w) 1 f_StepSet_init fd_StepSet_init ["self", "steps"] (spP K ad 2 G_StepSet_init)) (b_StepSet_init : Binds K fd_StepSet_init ["self", "steps"] []) (I_StepSet : Mk K (ad .StepSet) f_StepSet_init)
    {f_StepSet_or : Addr} {fd_StepSet_or : FuncData} (O_StepSet_or : FnOk P w K mg base (L2.CX P w) 3 f_StepSet_or fd_StepSet_or ["self", "other"] (spP K ad 2 G_StepSet_or)) (b_StepSet_or : Binds K fd_StepSet_or ["self", "other"] []) (M_StepSet_or : Meth K (ad .StepSet) "__or__" f_StepSet_or) :
    FnOk P w K mg base CX0 8 f fd ["script"] (spP K ad 1 G_l_law) :=
  ok0 (N := N_l_law) (s := B_l_law) F sc_l_law rfl rfl fun cdv A outer s H E hr =>
    ( ss_po (j := 1) (y := 2) (z := 3) (i := 4) rfl PassesOwn.never rfl sc_l_law.nd rfl (by first | exact Or.inl rfl | exact Or.inr rfl) rfl (by first | exact Or.inl rfl | exact Or.inr rfl) rfl (by first | exact Or.inl rfl | exact Or.inr rfl) rfl (by first | exact Or.inl rfl | exact Or.inr rfl) (pv 1) (pp_call O_l_pool (hr.mono (by decide)) (by rfl) m_l_pool k_l_pool b_l_pool .nil pass0 (pq_c (pp_call O_l_cell (hr.mono (by decide)) (by rfl) m_l_cell k_l_cell b_l_cell .nil pass0 (pq_c (pp_v 0 (pv 0)) (pq_c (pp_c pe_int) pq_n)) .nil) pq_n) .nil) (pp_call O_l_pool (hr.mono (by decide)) (by rfl) m_l_pool k_l_pool b_l_pool .nil pass0 (pq_c (pp_call O_l_cell (hr.mono (by decide)) (by rfl) m_l_cell k_l_cell b_l_cell .nil pass0 (pq_c (pp_v 0 (pv 0)) (pq_c (pp_c pe_int) pq_n)) .nil) pq_n) .nil)
    (ss_c (s_set (i := 5) sc_l_law.nd rfl (by first | exact Or.inl rfl | exact Or.inr rfl) (pp_call O_l_items (hr.mono (by decide)) (by rfl) m_l_items k_l_items b_l_items .nil pass0 (pq_k 4 (pv 4) pq_n) .nil))
    (ss_c (s_setC (i := 6) sc_l_law.nd rfl (by first | exact Or.inl rfl | exact Or.inr rfl) (pp_Tc ob_lst (c_lstA rfl) (by rfl) z_list (by decide +kernel) (pd_c (pp_v 5 (pv 5)) pd_n)))
    (ss_c (s_set (i := 7) sc_l_law.nd rfl (by first | exact Or.inl rfl | exact Or.inr rfl) (look_v 6 (pp_call O_l_made (hr.mono (by decide)) (by rfl) m_l_made k_l_made b_l_made .nil pass0 (pq_c (pp_v 6 (pv 6)) pq_n) .nil)))
    (ss_c (s_if (pp_tno (look_b 6 (pp_tval (pp_call O_l_same (hr.mono (by decide)) (by rfl) m_l_same k_l_same b_l_same .nil pass0 (pq_c (pp_v 6 (pv 6)) (pq_c (pp_v 5 (pv 5)) pq_n)) .nil))))
    (ss_1 (s_ret (pp_c pe_bl)))
    ss_n)
    (ss_c (s_if (PW.pt (pp_woo (pp_tcmp (op_eqB hr.units) o_eq (pp_B ob_len (c_lenA rfl) (by rfl) z_len (by decide +kernel) (pd_c (pp_v 5 (pv 5)) pd_n)) (pp_c pe_int) (nomark _)) (pw_or1 (pp_tcmp op_gt o_gt (pp_B ob_len (c_lenA rfl) (by rfl) z_len (by decide +kernel) (pd_c (pp_lc (own := [("step", 17)]) (by rfl) sc_l_law.nd (pi_l rfl (pp_v 5 (pv 5))) (blkOk_by (N := N_l_law) (sc := defScope s_l_law) (by decide +kernel)) (fun _ _ _ _ _ => (g_n (i := 17) sc_l_law.nd rfl (by first | exact Or.inl rfl | exact Or.inr rfl))) (fun _ _ _ _ _ => (pts_1 (PW.pt (pp_woo (pp_tcmp op_lt o_lt (pp_v 17 (pv 17)) (pp_c pe_int) (nomark _)) (pw_or1 (pp_tcmp op_gt o_gt (pp_v 17 (pv 17)) (pp_c pe_int) (nomark _))))))) (fun _ _ _ _ _ => (pp_v 17 (pv 17)))) pd_n)) (pp_c pe_int) (nomark _)))))
    (ss_1 (s_ret (pp_van (pp_cmp (op_eqB hr.units) o_eq (pp_ix rfl (pp_v 7 (pv 7)) (pp_c pe_int) (fun _ _ => rfl)) (pp_c pe_str) (nomark _)) (pe_one (pp_ix rfl (pp_v 7 (pv 7)) (pp_c pe_int) (fun _ _ => rfl))))))
    ss_n)
    (ss_c (s_if (pp_tcmp (op_neB hr.units) o_ne (pp_ix rfl (pp_v 7 (pv 7)) (pp_c pe_int) (fun _ _ => rfl)) (pp_c pe_str) (nomark _))
    (ss_1 (s_ret (pp_c pe_bl)))
    ss_n)
    (ss_c (s_setI 6 (pv 6) (pp_c pe_int) (pp_2 op_sub o_sub (pp_c pe_int) (look_v 6 (pp_ix rfl (pp_v 6 (pv 6)) (pp_c pe_int) (fun _ _ => rfl)))))
    (ss_c (s_ex (pp_bmL 6 rfl ol_app PySem.F.plainAttrs_list PySem.F.slot_list_append PySem.F.type_list_append mt_append (pv 6) (pd_c (pp_c pe_int) pd_n)))
    (ss_c (s_ex (pp_bmL 2 rfl ol_app PySem.F.plainAttrs_list PySem.F.slot_list_append PySem.F.type_list_append mt_append (pv 2) (pd_c (pp_ix rfl (pp_v 7 (pv 7)) (pp_c pe_int) (fun _ _ => rfl)) pd_n)))
    (ss_c (s_ex (pp_bmL 3 rfl ol_app PySem.F.plainAttrs_list PySem.F.slot_list_append PySem.F.type_list_append mt_append (pv 3) (pd_c (pp_lc (own := [("step", 17)]) (by rfl) sc_l_law.nd (pi_r2 (by rfl) z_range (pp_c pe_int) (pp_c pe_int)) (blkOk_by (N := N_l_law) (sc := defScope s_l_law) (by decide +kernel)) (fun _ _ _ _ _ => (g_n (i := 17) sc_l_law.nd rfl (by first | exact Or.inl rfl | exact Or.inr rfl))) (fun _ _ _ _ _ => (pts_1 (pp_tcmp (op_inB rfl) o_in (pp_v 17 (pv 17)) (pp_v 5 (pv 5)) (by rfl)))) (fun _ _ _ _ _ => (pp_v 17 (pv 17)))) pd_n)))
    (ss_1 (s_if (PW.pt (pp_woo (pp_tno (pp_tval (pp_call O_l_is (hr.mono (by decide)) (by rfl) m_l_is k_l_is b_l_is .nil pass0 (pq_c (pp_ix rfl (pp_v 7 (pv 7)) (pp_c pe_int) (fun _ _ => rfl)) (pq_c (pp_ixL 3 rfl (pv 3) (pp_1 un_neg o_neg (pp_c pe_int)) (fun _ _ => rfl)) pq_n)) .nil))) (pw_or1 (pp_tno (pp_tval (pp_call O_l_same (hr.mono (by decide)) (by rfl) m_l_same k_l_same b_l_same .nil pass0 (pq_c (pp_owncmp .StepSet rfl (fun _ _ => rfl) M_StepSet_eq T_StepSet.nf O_StepSet_eq (hr.mono (by decide)) b_StepSet_eq pass0 (pp_ix rfl (pp_v 7 (pv 7)) (pp_c pe_int) (fun _ _ => rfl)) (pp_make .StepSet I_StepSet O_StepSet_init (hr.mono (by decide)) (by rfl) T_StepSet.mg b_StepSet_init .nil passL (pq_c (pp_rev rfl (pp_v 5 (pv 5))) pq_n) .nil) (nomark _)) (pq_c (pp_c pe_bl) pq_n)) .nil))))))
    (ss_1 (s_ret (pp_c pe_bl)))
    ss_n))))))))))))
    (ss_c (s_setLc (i := 8) (own := [("step", 17)]) (by rfl) sc_l_law.nd rfl rfl (sw_true rfl rfl rfl (by decide +kernel)) (pi_r2 (by rfl) z_range (pp_c pe_int) (pp_c pe_int)) (blkOk_by (N := N_l_law) (sc := defScope s_l_law) (by decide +kernel)) (fun _ _ _ _ _ => (g_n (i := 17) sc_l_law.nd rfl (by first | exact Or.inl rfl | exact Or.inr rfl))) (fun _ _ _ _ _ => (pts_1 (PW.pt (pp_woo (pp_tcmp (op_inB rfl) o_in (pp_v 17 (pv 17)) (pp_ix rfl (pp_f 3 (pv 3)) (pp_c pe_int) (fun _ _ => rfl)) (by rfl)) (pw_or1 (pp_tcmp (op_inB rfl) o_in (pp_v 17 (pv 17)) (pp_ix rfl (pp_f 3 (pv 3)) (pp_c pe_int) (fun _ _ => rfl)) (by rfl))))))) (fun _ _ _ _ _ => (pp_v 17 (pv 17))))
    (ss_c (s_if (PW.pt (pp_woo (pp_tno (pp_tval (pp_call O_l_is (hr.mono (by decide)) (by rfl) m_l_is k_l_is b_l_is .nil pass0 (pq_c (pp_own2 .StepSet rfl M_StepSet_or T_StepSet.sf O_StepSet_or (hr.mono (by decide)) b_StepSet_or passL (pp_ix rfl (pp_f 2 (pv 2)) (pp_c pe_int) (fun _ _ => rfl)) (pp_ix rfl (pp_f 2 (pv 2)) (pp_c pe_int) (fun _ _ => rfl))) (pq_c (pp_v 8 (pv 8)) pq_n)) .nil))) (pw_or1 (pp_tno (pp_tval (pp_call O_l_same (hr.mono (by decide)) (by rfl) m_l_same k_l_same b_l_same .nil pass0 (pq_c (pp_owncmp .StepSet rfl (fun _ _ => rfl) M_StepSet_eq T_StepSet.nf O_StepSet_eq (hr.mono (by decide)) b_StepSet_eq pass0 (pp_ix rfl (pp_f 2 (pv 2)) (pp_c pe_int) (fun _ _ => rfl)) (pp_ix rfl (pp_f 2 (pv 2)) (pp_c pe_int) (fun _ _ => rfl)) (nomark _)) (pq_c (pp_cmp (op_eqB hr.units) o_eq (pp_ix rfl (pp_f 3 (pv 3)) (pp_c pe_int) (fun _ _ => rfl)) (pp_ix rfl (pp_f 3 (pv 3)) (pp_c pe_int) (fun _ _ => rfl)) (nomark _)) pq_n)) .nil))))))
    (ss_1 (s_ret (pp_c pe_bl)))
    ss_n)
    (ss_c (s_setC (i := 4) sc_l_law.nd rfl (by first | exact Or.inl rfl | exact Or.inr rfl) (pp_call O_l_pool (hr.mono (by decide)) (by rfl) m_l_pool k_l_pool b_l_pool .nil pass0 (pq_c (pp_call O_l_cell (hr.mono (by decide)) (by rfl) m_l_cell k_l_cell b_l_cell .nil pass0 (pq_c (pp_v 0 (pv 0)) (pq_c (pp_c pe_int) pq_n)) .nil) pq_n) .nil))
    (ss_c (s_if (PW.pt (pp_woo (pp_tno (pp_tval (pp_call O_l_of (hr.mono (by decide)) (by rfl) m_l_of k_l_of b_l_of .nil pass0 (pq_c (pp_call O_l_ab (hr.mono (by decide)) (by rfl) m_l_ab k_l_ab b_l_ab .nil pass0 (pq_k 4 (pv 4) (pq_c (pp_c pe_int) pq_n)) .nil) pq_n) .nil))) (pw_or1 (pp_tno (pp_tval (pp_call O_l_same (hr.mono (by decide)) (by rfl) m_l_same k_l_same b_l_same .nil pass0 (pq_c (pp_call00 O_f_first_stand (hr.mono (by decide)) (by rfl) m_f_first_stand k_f_first_stand b_f_first_stand .nil pass0 .nil) (pq_c (pp_tup (pd_c (pp_tup (pd_c (pp_c pe_str) (pd_c (pp_c pe_int) pd_n))) (pd_c (pp_tup (pd_c (pp_c pe_int) pd_n)) pd_n))) pq_n)) .nil))))))
    (ss_1 (s_ret (pp_c pe_bl)))
    ss_n)
    (ss_c (s_set (i := 9) sc_l_law.nd rfl (by first | exact Or.inl rfl | exact Or.inr rfl) (pp_call O_l_kinds (hr.mono (by decide)) (by rfl) m_l_kinds k_l_kinds b_l_kinds .nil pass0 (pq_k 4 (pv 4) (pq_c (pp_c pe_int) (pq_c (pp_c pe_int) (pq_c (pp_c pe_int) pq_n)))) .nil))
    (ss_c (s_if (pp_tcmp (op_eqB hr.units) o_eq (pp_call O_l_take (hr.mono (by decide)) (by rfl) m_l_take k_l_take b_l_take .nil pass0 (pq_k 4 (pv 4) (pq_c (pp_c pe_int) pq_n)) .nil) (pp_c pe_int) (nomark _))
    (ss_1 (s_set (i := 9) sc_l_law.nd rfl (by first | exact Or.inl rfl | exact Or.inr rfl) (pp_call O_l_kinds (hr.mono (by decide)) (by rfl) m_l_kinds k_l_kinds b_l_kinds .nil pass0 (pq_k 4 (pv 4) (pq_c (pp_c pe_int) (pq_c (pp_c pe_int) (pq_c (pp_c pe_int) pq_n)))) .nil)))
    ss_n)
    (ss_c (s_set (i := 10) sc_l_law.nd rfl (by first | exact Or.inl rfl | exact Or.inr rfl) (pp_2 op_add o_add (pp_c pe_int) (pp_call O_l_take (hr.mono (by decide)) (by rfl) m_l_take k_l_take b_l_take .nil pass0 (pq_k 4 (pv 4) (pq_c (pp_c pe_int) pq_n)) .nil)))
    (ss_c (s_if (pp_tcmp (op_eqB hr.units) o_eq (pp_call O_l_take (hr.mono (by decide)) (by rfl) m_l_take k_l_take b_l_take .nil pass0 (pq_k 4 (pv 4) (pq_c (pp_c pe_int) pq_n)) .nil) (pp_c pe_int) (nomark _))
    (ss_1 (s_set (i := 10) sc_l_law.nd rfl (by first | exact Or.inl rfl | exact Or.inr rfl) (pp_2 op_add o_add (pp_c pe_int) (pp_call O_l_take (hr.mono (by decide)) (by rfl) m_l_take k_l_take b_l_take .nil pass0 (pq_k 4 (pv 4) (pq_c (pp_c pe_int) pq_n)) .nil))))
    ss_n)
    (ss_c (s_set (i := 11) sc_l_law.nd rfl (by first | exact Or.inl rfl | exact Or.inr rfl) (pp_call O_l_signs_of (hr.mono (by decide)) (by rfl) m_l_signs_of k_l_signs_of b_l_signs_of .nil pass0 (pq_k 4 (pv 4) (pq_c (pp_v 9 (pv 9)) (pq_c (pp_v 10 (pv 10)) pq_n))) .nil))
    (ss_c (s_set (i := 12) sc_l_law.nd rfl (by first | exact Or.inl rfl | exact Or.inr rfl) (pp_make .Climate I_Climate O_Climate_init (hr.mono (by decide)) (by rfl) T_Climate.mg b_Climate_init .nil passL (pq_c (pp_Tc ob_lst (c_lstA rfl) (by rfl) z_list (by decide +kernel) (pd_c (pp_v 9 (pv 9)) pd_n)) pq_n) .nil))
    (ss_c (s_set (i := 13) sc_l_law.nd rfl (by first | exact Or.inl rfl | exact Or.inr rfl) (pp_B ob_max2 (OW.c_max2 rfl) (by rfl) z_max (by decide +kernel) (pd_c (pp_c pe_int) (pd_c (pp_call O_l_need (hr.mono (by decide)) (by rfl) m_l_need k_l_need b_l_need .nil pass0 (pq_c (pp_v 9 (pv 9)) pq_n) .nil) pd_n))))
    (ss_c (s_for PassesOwn.never rfl (pi_r1 (by rfl) z_range (pp_c pe_int)) (g_n (i := 14) sc_l_law.nd rfl (by first | exact Or.inl rfl | exact Or.inr rfl))
    (ss_c (s_if (pp_tno (pp_tval (pp_call O_l_odd_right (hr.mono (by decide)) (by rfl) m_l_odd_right k_l_odd_right b_l_odd_right .nil pass0 (pq_c (pp_ix rfl (pp_f 2 (pv 2)) (pp_v 14 (pv 14)) (fun _ _ => rfl)) (pq_c (pp_ix rfl (pp_f 3 (pv 3)) (pp_v 14 (pv 14)) (fun _ _ => rfl)) (pq_c (pp_v 9 (pv 9)) (pq_c (pp_v 12 (pv 12)) (pq_c (pp_v 13 (pv 13)) (pq_c (pp_call O_l_some_stand (hr.mono (by decide)) (by rfl) m_l_some_stand k_l_some_stand b_l_some_stand .nil pass0 (pq_k 4 (pv 4) (pq_c (pp_v 9 (pv 9)) (pq_c (pp_v 13 (pv 13)) (pq_c (pp_ix rfl (pp_ix rfl (pp_f 3 (pv 3)) (pp_v 14 (pv 14)) (fun _ _ => rfl)) (pp_1 un_neg o_neg (pp_c pe_int)) (fun _ _ => rfl)) pq_n)))) .nil) pq_n)))))) .nil)))
    (ss_1 (s_ret (pp_c pe_bl)))
    ss_n)
    (ss_c (s_set (i := 15) sc_l_law.nd rfl (by first | exact Or.inl rfl | exact Or.inr rfl) (pp_tup (pd_c (pp_tup (pd_c (pp_c pe_str) (pd_c (pp_c pe_int) pd_n))) (pd_c (pp_tup (pd_c (pp_c pe_int) pd_n)) pd_n))))
    (ss_1 (s_for PassesOwn.never rfl (pi_r2 (by rfl) z_range (pp_c pe_int) (pp_2 op_add o_add (pp_v 10 (pv 10)) (pp_c pe_int))) (g_n (i := 16) sc_l_law.nd rfl (by first | exact Or.inl rfl | exact Or.inr rfl))
    (ss_c (s_if (pp_tno (pp_tval (pp_call O_l_same (hr.mono (by decide)) (by rfl) m_l_same k_l_same b_l_same .nil pass0 (pq_c (pp_call O_f_next_stand (hr.mono (by decide)) (by rfl) m_f_next_stand k_f_next_stand b_f_next_stand .nil pass0 (pq_c (pp_ix rfl (pp_f 2 (pv 2)) (pp_v 14 (pv 14)) (fun _ _ => rfl)) (pq_c (pp_v 12 (pv 12)) (pq_c (pp_v 15 (pv 15)) (pq_c (pp_c pe_str) pq_n)))) .nil) (pq_c (pp_call O_l_stand (hr.mono (by decide)) (by rfl) m_l_stand k_l_stand b_l_stand .nil pass0 (pq_c (pp_ix rfl (pp_f 3 (pv 3)) (pp_v 14 (pv 14)) (fun _ _ => rfl)) (pq_c (pp_v 9 (pv 9)) (pq_c (pp_v 13 (pv 13)) (pq_c (pp_v 15 (pv 15)) (pq_c (pp_c pe_str) pq_n))))) .nil) pq_n)) .nil)))
    (ss_1 (s_ret (pp_c pe_bl)))
    ss_n)
    (ss_c (s_if (pp_tno (pp_tval (pp_call O_l_same (hr.mono (by decide)) (by rfl) m_l_same k_l_same b_l_same .nil pass0 (pq_c (pp_call O_f_next_stand (hr.mono (by decide)) (by rfl) m_f_next_stand k_f_next_stand b_f_next_stand .nil pass0 (pq_c (pp_ix rfl (pp_f 2 (pv 2)) (pp_v 14 (pv 14)) (fun _ _ => rfl)) (pq_c (pp_v 12 (pv 12)) (pq_c (pp_v 15 (pv 15)) (pq_c (pp_c pe_str) pq_n)))) .nil) (pq_c (pp_call O_l_stand (hr.mono (by decide)) (by rfl) m_l_stand k_l_stand b_l_stand .nil pass0 (pq_c (pp_ix rfl (pp_f 3 (pv 3)) (pp_v 14 (pv 14)) (fun _ _ => rfl)) (pq_c (pp_v 9 (pv 9)) (pq_c (pp_v 13 (pv 13)) (pq_c (pp_v 15 (pv 15)) (pq_c (pp_c pe_str) pq_n))))) .nil) pq_n)) .nil)))
    (ss_1 (s_ret (pp_c pe_bl)))
    ss_n)
    (ss_1 (s_if (pp_tcmp op_lt o_lt (pp_v 16 (pv 16)) (pp_v 10 (pv 10)) (nomark _))
    (ss_1 (s_set (i := 15) sc_l_law.nd rfl (by first | exact Or.inl rfl | exact Or.inr rfl) (pp_call O_l_stand (hr.mono (by decide)) (by rfl) m_l_stand k_l_stand b_l_stand .nil pass0 (pq_c (pp_ix rfl (pp_f 3 (pv 3)) (pp_v 14 (pv 14)) (fun _ _ => rfl)) (pq_c (pp_v 9 (pv 9)) (pq_c (pp_v 13 (pv 13)) (pq_c (pp_v 15 (pv 15)) (pq_c (pp_ix rfl (pp_v 11 (pv 11)) (pp_v 16 (pv 16)) (fun _ _ => rfl)) pq_n))))) .nil)))
    ss_n)))))))))
    (ss_1 (s_ret (pp_van (pp_call O_l_is (hr.mono (by decide)) (by rfl) m_l_is k_l_is b_l_is .nil pass0 (pq_c (pp_ix rfl (pp_f 2 (pv 2)) (pp_c pe_int) (fun _ _ => rfl)) (pq_c (pp_ix rfl (pp_f 3 (pv 3)) (pp_c pe_int) (fun _ _ => rfl)) pq_n)) .nil) (pe_one (pp_call O_l_is (hr.mono (by decide)) (by rfl) m_l_is k_l_is b_l_is .nil pass0 (pq_c (pp_ix rfl (pp_f 2 (pv 2)) (pp_c pe_int) (fun _ _ => rfl)) (pq_c (pp_ix rfl (pp_f 3 (pv 3)) (pp_c pe_int) (fun _ _ => rfl)) pq_n)) .nil))))))))))))))))))
end
end DP
section
set_option maxHeartbeats 3900000
namespace DP
open PySem PySem.Spec PyProof.Rows L2 PL
def adOf (C_BadKind : Addr) (C_BadLacquer : Addr) (C_BadSteps : Addr) (C_Climate : Addr) (C_DampError : Addr) (C_Lacquer : Addr) (C_StepSet : Addr) (C_TooLarge : Addr) : Cl → Addr
  | .BadKind => C_BadKind
  | .BadLacquer => C_BadLacquer
  | .BadSteps => C_BadSteps
  | .Climate => C_Climate
  | .DampError => C_DampError
  | .Lacquer => C_Lacquer
  | .StepSet => C_StepSet
  | .TooLarge => C_TooLarge
  | _ => 0
theorem all_mk {l : PySem.W.OpenLaw} {w : World} {K : PySem.W.Frag} {h : Heap} {mg : Str → Option Value} {fa : Addr} (X : K.In h) (G : h.Ns mainGlobals mg) (hfa : mg "law" = some (.ref fa))
    {C_BadKind : Addr}
    {C_BadLacquer : Addr}
    {C_BadSteps : Addr}
    {C_Climate : Addr}
    {C_DampError : Addr}
    {C_Lacquer : Addr}
    {tkc_Lacquer_v_MOST : Tok}
    {C_StepSet : Addr}
    {C_TooLarge : Addr}
    {tkg_DAMP_WORD : Tok}
    {tkg_DRY : Tok}
    {tkg_DRY_WORD : Tok}
    {ta_FIRST_SKY : Addr} {td_FIRST_SKY : Option Addr} {tn_FIRST_SKY : Nat} {tsl_FIRST_SKY : Array (Option Value)} {tk_FIRST_SKY_0 : Tok} {tk_FIRST_SKY_1 : Tok}
    {tkg_MOST_KINDS : Tok}
    {tkg_MOST_RUN : Tok}
    {tkg_MOST_SPELL : Tok}
    {tkg_MOST_STEP : Tok}
    {f_f_check_kind : Addr} {od_f_check_kind an_f_check_kind : Option Addr} {sl_f_check_kind : Array (Option Value)} {oc_f_check_kind kV_f_check_kind dc_f_check_kind pm_f_check_kind cd_f_check_kind ct_f_check_kind : Value}
    {f_f_check_kinds : Addr} {od_f_check_kinds an_f_check_kinds : Option Addr} {sl_f_check_kinds : Array (Option Value)} {oc_f_check_kinds kV_f_check_kinds dc_f_check_kinds pm_f_check_kinds cd_f_check_kinds ct_f_check_kinds : Value}
    {f_f_plain_list : Addr} {od_f_plain_list an_f_plain_list : Option Addr} {sl_f_plain_list : Array (Option Value)} {oc_f_plain_list kV_f_plain_list dc_f_plain_list pm_f_plain_list cd_f_plain_list ct_f_plain_list : Value}
    {f_Climate_init : Addr} {od_Climate_init an_Climate_init : Option Addr} {sl_Climate_init : Array (Option Value)} {oc_Climate_init kV_Climate_init dc_Climate_init pm_Climate_init cd_Climate_init ct_Climate_init : Value}
    {f_StepSet_eq : Addr} {od_StepSet_eq an_StepSet_eq : Option Addr} {sl_StepSet_eq : Array (Option Value)} {oc_StepSet_eq kV_StepSet_eq dc_StepSet_eq pm_StepSet_eq cd_StepSet_eq ct_StepSet_eq : Value}
    {f_StepSet_init : Addr} {od_StepSet_init an_StepSet_init : Option Addr} {sl_StepSet_init : Array (Option Value)} {oc_StepSet_init kV_StepSet_init dc_StepSet_init pm_StepSet_init cd_StepSet_init ct_StepSet_init : Value}
    {f_StepSet_or : Addr} {od_StepSet_or an_StepSet_or : Option Addr} {sl_StepSet_or : Array (Option Value)} {oc_StepSet_or kV_StepSet_or dc_StepSet_or pm_StepSet_or cd_StepSet_or ct_StepSet_or : Value}
    {f_f_first_stand : Addr} {od_f_first_stand an_f_first_stand : Option Addr} {sl_f_first_stand : Array (Option Value)} {oc_f_first_stand kV_f_first_stand dc_f_first_stand pm_f_first_stand cd_f_first_stand ct_f_first_stand : Value}
    {f_StepSet_contains : Addr} {od_StepSet_contains an_StepSet_contains : Option Addr} {sl_StepSet_contains : Array (Option Value)} {oc_StepSet_contains kV_StepSet_contains dc_StepSet_contains pm_StepSet_contains cd_StepSet_contains ct_StepSet_contains : Value}
    {f_StepSet_farthest : Addr} {od_StepSet_farthest an_StepSet_farthest : Option Addr} {sl_StepSet_farthest : Array (Option Value)} {oc_StepSet_farthest kV_StepSet_farthest dc_StepSet_farthest pm_StepSet_farthest cd_StepSet_farthest ct_StepSet_farthest : Value}
    {p_StepSet_farthest : Addr} {rest_StepSet_farthest : List Value}
    {f_Climate_longest : Addr} {od_Climate_longest an_Climate_longest : Option Addr} {sl_Climate_longest : Array (Option Value)} {oc_Climate_longest kV_Climate_longest dc_Climate_longest pm_Climate_longest cd_Climate_longest ct_Climate_longest : Value}
    {f_Climate_need : Addr} {od_Climate_need an_Climate_need : Option Addr} {sl_Climate_need : Array (Option Value)} {oc_Climate_need kV_Climate_need dc_Climate_need pm_Climate_need cd_Climate_need ct_Climate_need : Value}
    {p_Climate_need : Addr} {rest_Climate_need : List Value}
    {f_f_next_sky : Addr} {od_f_next_sky an_f_next_sky : Option Addr} {sl_f_next_sky : Array (Option Value)} {oc_f_next_sky kV_f_next_sky dc_f_next_sky pm_f_next_sky cd_f_next_sky ct_f_next_sky : Value}
    {f_f_next_stand : Addr} {od_f_next_stand an_f_next_stand : Option Addr} {sl_f_next_stand : Array (Option Value)} {oc_f_next_stand kV_f_next_stand dc_f_next_stand pm_f_next_stand cd_f_next_stand ct_f_next_stand : Value}
    {f_l_take : Addr} {od_l_take an_l_take : Option Addr} {sl_l_take : Array (Option Value)} {oc_l_take kV_l_take dc_l_take pm_l_take cd_l_take ct_l_take : Value}
    {f_l_ab : Addr} {od_l_ab an_l_ab : Option Addr} {sl_l_ab : Array (Option Value)} {oc_l_ab kV_l_ab dc_l_ab pm_l_ab cd_l_ab ct_l_ab : Value}
    {f_l_cell : Addr} {od_l_cell an_l_cell : Option Addr} {sl_l_cell : Array (Option Value)} {oc_l_cell kV_l_cell dc_l_cell pm_l_cell cd_l_cell ct_l_cell : Value}
    {f_StepSet_iter : Addr} {od_StepSet_iter an_StepSet_iter : Option Addr} {sl_StepSet_iter : Array (Option Value)} {oc_StepSet_iter kV_StepSet_iter dc_StepSet_iter pm_StepSet_iter cd_StepSet_iter ct_StepSet_iter : Value}
    {f_l_same : Addr} {od_l_same an_l_same : Option Addr} {sl_l_same : Array (Option Value)} {oc_l_same kV_l_same dc_l_same pm_l_same cd_l_same ct_l_same : Value}
    {f_l_is : Addr} {od_l_is an_l_is : Option Addr} {sl_l_is : Array (Option Value)} {oc_l_is kV_l_is dc_l_is pm_l_is cd_l_is ct_l_is : Value}
    {f_l_items : Addr} {od_l_items an_l_items : Option Addr} {sl_l_items : Array (Option Value)} {oc_l_items kV_l_items dc_l_items pm_l_items cd_l_items ct_l_items : Value}
    {f_l_kinds : Addr} {od_l_kinds an_l_kinds : Option Addr} {sl_l_kinds : Array (Option Value)} {oc_l_kinds kV_l_kinds dc_l_kinds pm_l_kinds cd_l_kinds ct_l_kinds : Value}
    {f_l_made : Addr} {od_l_made an_l_made : Option Addr} {sl_l_made : Array (Option Value)} {oc_l_made kV_l_made dc_l_made pm_l_made cd_l_made ct_l_made : Value}
    {f_l_least_run : Addr} {od_l_least_run an_l_least_run : Option Addr} {sl_l_least_run : Array (Option Value)} {oc_l_least_run kV_l_least_run dc_l_least_run pm_l_least_run cd_l_least_run ct_l_least_run : Value}
    {f_l_plain : Addr} {od_l_plain an_l_plain : Option Addr} {sl_l_plain : Array (Option Value)} {oc_l_plain kV_l_plain dc_l_plain pm_l_plain cd_l_plain ct_l_plain : Value}
    {f_l_need : Addr} {od_l_need an_l_need : Option Addr} {sl_l_need : Array (Option Value)} {oc_l_need kV_l_need dc_l_need pm_l_need cd_l_need ct_l_need : Value}
    {f_l_ages : Addr} {od_l_ages an_l_ages : Option Addr} {sl_l_ages : Array (Option Value)} {oc_l_ages kV_l_ages dc_l_ages pm_l_ages cd_l_ages ct_l_ages : Value}
    {f_l_longest : Addr} {od_l_longest an_l_longest : Option Addr} {sl_l_longest : Array (Option Value)} {oc_l_longest kV_l_longest dc_l_longest pm_l_longest cd_l_longest ct_l_longest : Value}
    {f_l_sky : Addr} {od_l_sky an_l_sky : Option Addr} {sl_l_sky : Array (Option Value)} {oc_l_sky kV_l_sky dc_l_sky pm_l_sky cd_l_sky ct_l_sky : Value}
    {f_l_stand : Addr} {od_l_stand an_l_stand : Option Addr} {sl_l_stand : Array (Option Value)} {oc_l_stand kV_l_stand dc_l_stand pm_l_stand cd_l_stand ct_l_stand : Value}
    {f_l_odd_right : Addr} {od_l_odd_right an_l_odd_right : Option Addr} {sl_l_odd_right : Array (Option Value)} {oc_l_odd_right kV_l_odd_right dc_l_odd_right pm_l_odd_right cd_l_odd_right ct_l_odd_right : Value}
    {f_Lacquer_init : Addr} {od_Lacquer_init an_Lacquer_init : Option Addr} {sl_Lacquer_init : Array (Option Value)} {oc_Lacquer_init kV_Lacquer_init dc_Lacquer_init pm_Lacquer_init cd_Lacquer_init ct_Lacquer_init : Value}
    {f_StepSet_of : Addr} {od_StepSet_of an_StepSet_of : Option Addr} {sl_StepSet_of : Array (Option Value)} {oc_StepSet_of kV_StepSet_of dc_StepSet_of pm_StepSet_of cd_StepSet_of ct_StepSet_of : Value}
    {p_StepSet_of : Addr} {rest_StepSet_of : List Value}
    {f_l_of : Addr} {od_l_of an_l_of : Option Addr} {sl_l_of : Array (Option Value)} {oc_l_of kV_l_of dc_l_of pm_l_of cd_l_of ct_l_of : Value}
    {f_l_pool : Addr} {od_l_pool an_l_pool : Option Addr} {sl_l_pool : Array (Option Value)} {oc_l_pool kV_l_pool dc_l_pool pm_l_pool cd_l_pool ct_l_pool : Value}
    {f_l_signs_of : Addr} {od_l_signs_of an_l_signs_of : Option Addr} {sl_l_signs_of : Array (Option Value)} {oc_l_signs_of kV_l_signs_of dc_l_signs_of pm_l_signs_of cd_l_signs_of ct_l_signs_of : Value}
    {f_l_some_stand : Addr} {od_l_some_stand an_l_some_stand : Option Addr} {sl_l_some_stand : Array (Option Value)} {oc_l_some_stand kV_l_some_stand dc_l_some_stand pm_l_some_stand cd_l_some_stand ct_l_some_stand : Value}
    {f_l_law : Addr} {od_l_law an_l_law : Option Addr} {sl_l_law : Array (Option Value)} {oc_l_law kV_l_law dc_l_law pm_l_law cd_l_law ct_l_law : Value}
    (a_BadKind : PySem.W.nsIn K mainGlobals "BadKind" = some (some (.ref C_BadKind)))
    (c_BadKind_x : PySem.W.excIn K C_BadKind [.type "ValueError", .type "Exception", .type "BaseException", .type "object"] "ValueError.__new__" = true)
    (c_BadKind_kp : PySem.W.keepIn K (.ref C_BadKind) = true)
    (c_BadKind_b : PySem.W.subIn K (.ref C_BadKind) (.type "BaseException") = some true)
    (c_BadKind_t : PySem.W.typeIn K (.ref C_BadKind) = some (.type "type"))
    (c_BadKind_i : PySem.W.isClsIn K C_BadKind = true)
    (c_BadKind_s : PySem.W.subIn K (.ref C_BadKind) (.ref C_BadKind) = some true)
    (c_BadKind_hg : PySem.W.findIn K (.ref C_BadKind) "__getattribute__" = some (some (.builtin "BaseException.__getattribute__")))
    (c_BadKind_hk : PySem.W.findIn K (.ref C_BadKind) "__getattr__" = some none)
    (c_BadKind_hd : PySem.W.hasDictIn K C_BadKind = true)
    (c_BadKind_ha : PySem.W.findIn K (.ref C_BadKind) "__class__" = some (some (.builtin "object.__class__")))
    (c_BadKind_hn : PySem.W.specialIn K (.builtin "object.__class__") "__get__" = some (some (.builtin "getset_descriptor.__get__")))
    (c_BadKind_ht : PySem.W.takesIn K (.builtin "object.__class__") = some true)
    (c_BadKind_hm : PySem.W.mroIn K C_BadKind (.type "object") = some true)
    (a_BadLacquer : PySem.W.nsIn K mainGlobals "BadLacquer" = some (some (.ref C_BadLacquer)))
    (c_BadLacquer_x : PySem.W.excIn K C_BadLacquer [.type "ValueError", .type "Exception", .type "BaseException", .type "object"] "ValueError.__new__" = true)
    (c_BadLacquer_kp : PySem.W.keepIn K (.ref C_BadLacquer) = true)
    (c_BadLacquer_b : PySem.W.subIn K (.ref C_BadLacquer) (.type "BaseException") = some true)
    (c_BadLacquer_t : PySem.W.typeIn K (.ref C_BadLacquer) = some (.type "type"))
    (c_BadLacquer_i : PySem.W.isClsIn K C_BadLacquer = true)
    (c_BadLacquer_s : PySem.W.subIn K (.ref C_BadLacquer) (.ref C_BadLacquer) = some true)
    (c_BadLacquer_hg : PySem.W.findIn K (.ref C_BadLacquer) "__getattribute__" = some (some (.builtin "BaseException.__getattribute__")))
    (c_BadLacquer_hk : PySem.W.findIn K (.ref C_BadLacquer) "__getattr__" = some none)
    (c_BadLacquer_hd : PySem.W.hasDictIn K C_BadLacquer = true)
    (c_BadLacquer_ha : PySem.W.findIn K (.ref C_BadLacquer) "__class__" = some (some (.builtin "object.__class__")))
    (c_BadLacquer_hn : PySem.W.specialIn K (.builtin "object.__class__") "__get__" = some (some (.builtin "getset_descriptor.__get__")))
    (c_BadLacquer_ht : PySem.W.takesIn K (.builtin "object.__class__") = some true)
    (c_BadLacquer_hm : PySem.W.mroIn K C_BadLacquer (.type "object") = some true)
    (a_BadSteps : PySem.W.nsIn K mainGlobals "BadSteps" = some (some (.ref C_BadSteps)))
    (c_BadSteps_x : PySem.W.excIn K C_BadSteps [.type "ValueError", .type "Exception", .type "BaseException", .type "object"] "ValueError.__new__" = true)
    (c_BadSteps_kp : PySem.W.keepIn K (.ref C_BadSteps) = true)
    (c_BadSteps_b : PySem.W.subIn K (.ref C_BadSteps) (.type "BaseException") = some true)
    (c_BadSteps_t : PySem.W.typeIn K (.ref C_BadSteps) = some (.type "type"))
    (c_BadSteps_i : PySem.W.isClsIn K C_BadSteps = true)
    (c_BadSteps_s : PySem.W.subIn K (.ref C_BadSteps) (.ref C_BadSteps) = some true)
    (c_BadSteps_hg : PySem.W.findIn K (.ref C_BadSteps) "__getattribute__" = some (some (.builtin "BaseException.__getattribute__")))
    (c_BadSteps_hk : PySem.W.findIn K (.ref C_BadSteps) "__getattr__" = some none)
    (c_BadSteps_hd : PySem.W.hasDictIn K C_BadSteps = true)
    (c_BadSteps_ha : PySem.W.findIn K (.ref C_BadSteps) "__class__" = some (some (.builtin "object.__class__")))
    (c_BadSteps_hn : PySem.W.specialIn K (.builtin "object.__class__") "__get__" = some (some (.builtin "getset_descriptor.__get__")))
    (c_BadSteps_ht : PySem.W.takesIn K (.builtin "object.__class__") = some true)
    (c_BadSteps_hm : PySem.W.mroIn K C_BadSteps (.type "object") = some true)
    (a_Climate : PySem.W.nsIn K mainGlobals "Climate" = some (some (.ref C_Climate)))
    (c_Climate_pg : PySem.W.plainGet K C_Climate Str.empty = true)
    (c_Climate_hd : PySem.W.hasDictIn K C_Climate = true)
    (c_Climate_po : PySem.W.plainOver K C_Climate = true)
    (c_Climate_sa : PySem.W.findIn K (.ref C_Climate) "__setattr__" = some (some (.builtin "object.__setattr__")))
    (c_Climate_sf : PySem.W.selfFirst K C_Climate = true)
    (c_Climate_nf : PySem.W.notFirst K C_Climate (.ref C_Climate) = true)
    (c_Climate_ha : PySem.W.findIn K (.ref C_Climate) "__class__" = some (some (.builtin "object.__class__")))
    (c_Climate_hn : PySem.W.specialIn K (.builtin "object.__class__") "__get__" = some (some (.builtin "getset_descriptor.__get__")))
    (c_Climate_ht : PySem.W.takesIn K (.builtin "object.__class__") = some true)
    (c_Climate_hm : PySem.W.mroIn K C_Climate (.type "object") = some true)
    (c_Climate_kp : PySem.W.keepIn K (.ref C_Climate) = true)
    (c_Climate_mkk : PySem.W.makesIn K C_Climate = true)
    (c_Climate_n_kinds : PySem.W.findIn K (.ref C_Climate) "kinds" = some none)
    (a_DampError : PySem.W.nsIn K mainGlobals "DampError" = some (some (.ref C_DampError)))
    (c_DampError_x : PySem.W.excIn K C_DampError [.type "ValueError", .type "Exception", .type "BaseException", .type "object"] "ValueError.__new__" = true)
    (c_DampError_kp : PySem.W.keepIn K (.ref C_DampError) = true)
    (c_DampError_b : PySem.W.subIn K (.ref C_DampError) (.type "BaseException") = some true)
    (c_DampError_t : PySem.W.typeIn K (.ref C_DampError) = some (.type "type"))
    (c_DampError_i : PySem.W.isClsIn K C_DampError = true)
    (c_DampError_s : PySem.W.subIn K (.ref C_DampError) (.ref C_DampError) = some true)
    (c_DampError_hg : PySem.W.findIn K (.ref C_DampError) "__getattribute__" = some (some (.builtin "BaseException.__getattribute__")))
    (c_DampError_hk : PySem.W.findIn K (.ref C_DampError) "__getattr__" = some none)
    (c_DampError_hd : PySem.W.hasDictIn K C_DampError = true)
    (c_DampError_ha : PySem.W.findIn K (.ref C_DampError) "__class__" = some (some (.builtin "object.__class__")))
    (c_DampError_hn : PySem.W.specialIn K (.builtin "object.__class__") "__get__" = some (some (.builtin "getset_descriptor.__get__")))
    (c_DampError_ht : PySem.W.takesIn K (.builtin "object.__class__") = some true)
    (c_DampError_hm : PySem.W.mroIn K C_DampError (.type "object") = some true)
    (a_Lacquer : PySem.W.nsIn K mainGlobals "Lacquer" = some (some (.ref C_Lacquer)))
    (c_Lacquer_pg : PySem.W.plainGet K C_Lacquer Str.empty = true)
    (c_Lacquer_hd : PySem.W.hasDictIn K C_Lacquer = true)
    (c_Lacquer_po : PySem.W.plainOver K C_Lacquer = true)
    (c_Lacquer_sa : PySem.W.findIn K (.ref C_Lacquer) "__setattr__" = some (some (.builtin "object.__setattr__")))
    (c_Lacquer_sf : PySem.W.selfFirst K C_Lacquer = true)
    (c_Lacquer_nf : PySem.W.notFirst K C_Lacquer (.ref C_Lacquer) = true)
    (c_Lacquer_ha : PySem.W.findIn K (.ref C_Lacquer) "__class__" = some (some (.builtin "object.__class__")))
    (c_Lacquer_hn : PySem.W.specialIn K (.builtin "object.__class__") "__get__" = some (some (.builtin "getset_descriptor.__get__")))
    (c_Lacquer_ht : PySem.W.takesIn K (.builtin "object.__class__") = some true)
    (c_Lacquer_hm : PySem.W.mroIn K C_Lacquer (.type "object") = some true)
    (c_Lacquer_kp : PySem.W.keepIn K (.ref C_Lacquer) = true)
    (c_Lacquer_mkk : PySem.W.makesIn K C_Lacquer = true)
    (c_Lacquer_v_MOST : PySem.W.findCls K (.ref C_Lacquer) (.type "type") "MOST" = some (.val (.int 12 tkc_Lacquer_v_MOST)))
    (c_Lacquer_rd : PySem.W.readsIn K C_Lacquer (.type "type") = true)
    (c_Lacquer_ga : PySem.W.specialIn K (.ref C_Lacquer) "__getattribute__" = some (some (.builtin "type.__getattribute__")))
    (c_Lacquer_n_a : PySem.W.findIn K (.ref C_Lacquer) "a" = some none)
    (c_Lacquer_n_b : PySem.W.findIn K (.ref C_Lacquer) "b" = some none)
    (a_StepSet : PySem.W.nsIn K mainGlobals "StepSet" = some (some (.ref C_StepSet)))
    (c_StepSet_pg : PySem.W.plainGet K C_StepSet Str.empty = true)
    (c_StepSet_hd : PySem.W.hasDictIn K C_StepSet = true)
    (c_StepSet_po : PySem.W.plainOver K C_StepSet = true)
    (c_StepSet_sa : PySem.W.findIn K (.ref C_StepSet) "__setattr__" = some (some (.builtin "object.__setattr__")))
    (c_StepSet_sf : PySem.W.selfFirst K C_StepSet = true)
    (c_StepSet_nf : PySem.W.notFirst K C_StepSet (.ref C_StepSet) = true)
    (c_StepSet_ha : PySem.W.findIn K (.ref C_StepSet) "__class__" = some (some (.builtin "object.__class__")))
    (c_StepSet_hn : PySem.W.specialIn K (.builtin "object.__class__") "__get__" = some (some (.builtin "getset_descriptor.__get__")))
    (c_StepSet_ht : PySem.W.takesIn K (.builtin "object.__class__") = some true)
    (c_StepSet_hm : PySem.W.mroIn K C_StepSet (.type "object") = some true)
    (c_StepSet_kp : PySem.W.keepIn K (.ref C_StepSet) = true)
    (c_StepSet_mkk : PySem.W.makesIn K C_StepSet = true)
    (c_StepSet_rd : PySem.W.readsIn K C_StepSet (.type "type") = true)
    (c_StepSet_ga : PySem.W.specialIn K (.ref C_StepSet) "__getattribute__" = some (some (.builtin "type.__getattribute__")))
    (c_StepSet_n___len__ : PySem.W.findIn K (.ref C_StepSet) "__len__" = some none)
    (c_StepSet_n___length_hint__ : PySem.W.findIn K (.ref C_StepSet) "__length_hint__" = some none)
    (c_StepSet_n_steps : PySem.W.findIn K (.ref C_StepSet) "steps" = some none)
    (a_TooLarge : PySem.W.nsIn K mainGlobals "TooLarge" = some (some (.ref C_TooLarge)))
    (c_TooLarge_x : PySem.W.excIn K C_TooLarge [.type "ValueError", .type "Exception", .type "BaseException", .type "object"] "ValueError.__new__" = true)
    (c_TooLarge_kp : PySem.W.keepIn K (.ref C_TooLarge) = true)
    (c_TooLarge_b : PySem.W.subIn K (.ref C_TooLarge) (.type "BaseException") = some true)
    (c_TooLarge_t : PySem.W.typeIn K (.ref C_TooLarge) = some (.type "type"))
    (c_TooLarge_i : PySem.W.isClsIn K C_TooLarge = true)
    (c_TooLarge_s : PySem.W.subIn K (.ref C_TooLarge) (.ref C_TooLarge) = some true)
    (c_TooLarge_hg : PySem.W.findIn K (.ref C_TooLarge) "__getattribute__" = some (some (.builtin "BaseException.__getattribute__")))
    (c_TooLarge_hk : PySem.W.findIn K (.ref C_TooLarge) "__getattr__" = some none)
    (c_TooLarge_hd : PySem.W.hasDictIn K C_TooLarge = true)
    (c_TooLarge_ha : PySem.W.findIn K (.ref C_TooLarge) "__class__" = some (some (.builtin "object.__class__")))
    (c_TooLarge_hn : PySem.W.specialIn K (.builtin "object.__class__") "__get__" = some (some (.builtin "getset_descriptor.__get__")))
    (c_TooLarge_ht : PySem.W.takesIn K (.builtin "object.__class__") = some true)
    (c_TooLarge_hm : PySem.W.mroIn K C_TooLarge (.type "object") = some true)
    (kit_BadSteps_DampError : PySem.W.kitOne K (.ref C_BadSteps) (.ref C_DampError) = some true)
    (kit_BadSteps_TooLarge : PySem.W.kitOne K (.ref C_BadSteps) (.ref C_TooLarge) = some false)
    (kit_BadSteps_ValueError : PySem.W.kitOne K (.ref C_BadSteps) (.type "ValueError") = some true)
    (kit_NoneType_StepSet : PySem.W.kitOne K (.type "NoneType") (.ref C_StepSet) = some false)
    (kit_NoneType_bool : PySem.W.kitOne K (.type "NoneType") (.type "bool") = some false)
    (kit_NoneType_int : PySem.W.kitOne K (.type "NoneType") (.type "int") = some false)
    (kit_NoneType_list : PySem.W.kitOne K (.type "NoneType") (.type "list") = some false)
    (kit_NoneType_str : PySem.W.kitOne K (.type "NoneType") (.type "str") = some false)
    (kit_NoneType_tuple : PySem.W.kitOne K (.type "NoneType") (.type "tuple") = some false)
    (kit_StepSet_StepSet : PySem.W.kitOne K (.ref C_StepSet) (.ref C_StepSet) = some true)
    (kit_TooLarge_BadSteps : PySem.W.kitOne K (.ref C_TooLarge) (.ref C_BadSteps) = some false)
    (kit_TooLarge_DampError : PySem.W.kitOne K (.ref C_TooLarge) (.ref C_DampError) = some true)
    (kit_TooLarge_ValueError : PySem.W.kitOne K (.ref C_TooLarge) (.type "ValueError") = some true)
    (kit_bool_bool : PySem.W.kitOne K (.type "bool") (.type "bool") = some true)
    (kit_bool_int : PySem.W.kitOne K (.type "bool") (.type "int") = some true)
    (kit_bool_list : PySem.W.kitOne K (.type "bool") (.type "list") = some false)
    (kit_bool_str : PySem.W.kitOne K (.type "bool") (.type "str") = some false)
    (kit_bool_tuple : PySem.W.kitOne K (.type "bool") (.type "tuple") = some false)
    (kit_int_bool : PySem.W.kitOne K (.type "int") (.type "bool") = some false)
    (kit_int_int : PySem.W.kitOne K (.type "int") (.type "int") = some true)
    (kit_int_list : PySem.W.kitOne K (.type "int") (.type "list") = some false)
    (kit_int_str : PySem.W.kitOne K (.type "int") (.type "str") = some false)
    (kit_int_tuple : PySem.W.kitOne K (.type "int") (.type "tuple") = some false)
    (kit_list_bool : PySem.W.kitOne K (.type "list") (.type "bool") = some false)
    (kit_list_int : PySem.W.kitOne K (.type "list") (.type "int") = some false)
    (kit_list_list : PySem.W.kitOne K (.type "list") (.type "list") = some true)
    (kit_list_str : PySem.W.kitOne K (.type "list") (.type "str") = some false)
    (kit_list_tuple : PySem.W.kitOne K (.type "list") (.type "tuple") = some false)
    (kit_str_bool : PySem.W.kitOne K (.type "str") (.type "bool") = some false)
    (kit_str_int : PySem.W.kitOne K (.type "str") (.type "int") = some false)
    (kit_str_list : PySem.W.kitOne K (.type "str") (.type "list") = some false)
    (kit_str_str : PySem.W.kitOne K (.type "str") (.type "str") = some true)
    (kit_str_tuple : PySem.W.kitOne K (.type "str") (.type "tuple") = some false)
    (kit_tuple_bool : PySem.W.kitOne K (.type "tuple") (.type "bool") = some false)
    (kit_tuple_int : PySem.W.kitOne K (.type "tuple") (.type "int") = some false)
    (kit_tuple_list : PySem.W.kitOne K (.type "tuple") (.type "list") = some false)
    (kit_tuple_str : PySem.W.kitOne K (.type "tuple") (.type "str") = some false)
    (kit_tuple_tuple : PySem.W.kitOne K (.type "tuple") (.type "tuple") = some true)
    (xm_BadKind_BadSteps : PySem.W.exmOne K (.ref C_BadKind) (.ref C_BadSteps) = some false)
    (xm_BadKind_TooLarge : PySem.W.exmOne K (.ref C_BadKind) (.ref C_TooLarge) = some false)
    (xm_BadLacquer_BadSteps : PySem.W.exmOne K (.ref C_BadLacquer) (.ref C_BadSteps) = some false)
    (xm_BadLacquer_TooLarge : PySem.W.exmOne K (.ref C_BadLacquer) (.ref C_TooLarge) = some false)
    (xm_BadSteps_BadSteps : PySem.W.exmOne K (.ref C_BadSteps) (.ref C_BadSteps) = some true)
    (xm_BadSteps_TooLarge : PySem.W.exmOne K (.ref C_BadSteps) (.ref C_TooLarge) = some false)
    (xm_DampError_BadSteps : PySem.W.exmOne K (.ref C_DampError) (.ref C_BadSteps) = some false)
    (xm_DampError_TooLarge : PySem.W.exmOne K (.ref C_DampError) (.ref C_TooLarge) = some false)
    (xm_TooLarge_BadSteps : PySem.W.exmOne K (.ref C_TooLarge) (.ref C_BadSteps) = some false)
    (xm_TooLarge_TooLarge : PySem.W.exmOne K (.ref C_TooLarge) (.ref C_TooLarge) = some true)
    (y_ValueError : PySem.W.nsIn K mainGlobals "ValueError" = some none)
    (y_any : PySem.W.nsIn K mainGlobals "any" = some none)
    (y_bool : PySem.W.nsIn K mainGlobals "bool" = some none)
    (y_int : PySem.W.nsIn K mainGlobals "int" = some none)
    (y_isinstance : PySem.W.nsIn K mainGlobals "isinstance" = some none)
    (y_iter : PySem.W.nsIn K mainGlobals "iter" = some none)
    (y_len : PySem.W.nsIn K mainGlobals "len" = some none)
    (y_list : PySem.W.nsIn K mainGlobals "list" = some none)
    (y_max : PySem.W.nsIn K mainGlobals "max" = some none)
    (y_min : PySem.W.nsIn K mainGlobals "min" = some none)
    (y_range : PySem.W.nsIn K mainGlobals "range" = some none)
    (y_set : PySem.W.nsIn K mainGlobals "set" = some none)
    (y_sorted : PySem.W.nsIn K mainGlobals "sorted" = some none)
    (y_str : PySem.W.nsIn K mainGlobals "str" = some none)
    (y_tuple : PySem.W.nsIn K mainGlobals "tuple" = some none)
    (y_DAMP_WORD : PySem.W.nsIn K mainGlobals "DAMP_WORD" = some (some (.str "damp" tkg_DAMP_WORD)))
    (y_DRY : PySem.W.nsIn K mainGlobals "DRY" = some (some (.str "." tkg_DRY)))
    (y_DRY_WORD : PySem.W.nsIn K mainGlobals "DRY_WORD" = some (some (.str "dry" tkg_DRY_WORD)))
    (y_FIRST_SKY : PySem.W.nsIn K mainGlobals "FIRST_SKY" = some (some (.ref ta_FIRST_SKY)))
    (yl_FIRST_SKY : K.lookup ta_FIRST_SKY = some ⟨.type "tuple", td_FIRST_SKY, .seq #[.str "dry" tk_FIRST_SKY_0, .int 1 tk_FIRST_SKY_1] tn_FIRST_SKY, tsl_FIRST_SKY⟩)
    (y_MOST_KINDS : PySem.W.nsIn K mainGlobals "MOST_KINDS" = some (some (.int 300 tkg_MOST_KINDS)))
    (y_MOST_RUN : PySem.W.nsIn K mainGlobals "MOST_RUN" = some (some (.int 120 tkg_MOST_RUN)))
    (y_MOST_SPELL : PySem.W.nsIn K mainGlobals "MOST_SPELL" = some (some (.int 16 tkg_MOST_SPELL)))
    (y_MOST_STEP : PySem.W.nsIn K mainGlobals "MOST_STEP" = some (some (.int 8 tkg_MOST_STEP)))
    (a_f_check_kind : PySem.W.nsIn K mainGlobals "check_kind" = some (some (.ref f_f_check_kind)))
    (l_f_check_kind : K.lookup f_f_check_kind = some ⟨oc_f_check_kind, od_f_check_kind, .func (PySem.W.fnOf "check_kind" "check_kind" (defArgs s_f_check_kind) (defBody s_f_check_kind) (defScope s_f_check_kind) .none kV_f_check_kind dc_f_check_kind pm_f_check_kind an_f_check_kind cd_f_check_kind ct_f_check_kind), sl_f_check_kind⟩)
    (e_f_check_kind : PySem.W.codeIn K cd_f_check_kind "check_kind" = true)
    (k_f_check_kind : PySem.W.keepIn K (.ref f_f_check_kind) = true)
    (a_f_check_kinds : PySem.W.nsIn K mainGlobals "check_kinds" = some (some (.ref f_f_check_kinds)))
    (l_f_check_kinds : K.lookup f_f_check_kinds = some ⟨oc_f_check_kinds, od_f_check_kinds, .func (PySem.W.fnOf "check_kinds" "check_kinds" (defArgs s_f_check_kinds) (defBody s_f_check_kinds) (defScope s_f_check_kinds) .none kV_f_check_kinds dc_f_check_kinds pm_f_check_kinds an_f_check_kinds cd_f_check_kinds ct_f_check_kinds), sl_f_check_kinds⟩)
    (e_f_check_kinds : PySem.W.codeIn K cd_f_check_kinds "check_kinds" = true)
    (k_f_check_kinds : PySem.W.keepIn K (.ref f_f_check_kinds) = true)
    (a_f_plain_list : PySem.W.nsIn K mainGlobals "plain_list" = some (some (.ref f_f_plain_list)))
    (l_f_plain_list : K.lookup f_f_plain_list = some ⟨oc_f_plain_list, od_f_plain_list, .func (PySem.W.fnOf "plain_list" "plain_list" (defArgs s_f_plain_list) (defBody s_f_plain_list) (defScope s_f_plain_list) .none kV_f_plain_list dc_f_plain_list pm_f_plain_list an_f_plain_list cd_f_plain_list ct_f_plain_list), sl_f_plain_list⟩)
    (e_f_plain_list : PySem.W.codeIn K cd_f_plain_list "plain_list" = true)
    (k_f_plain_list : PySem.W.keepIn K (.ref f_f_plain_list) = true)
    (a_Climate_init : PySem.W.findIn K (.ref C_Climate) "__init__" = some (some (.ref f_Climate_init)))
    (j_Climate_init : PySem.W.isFn K (.ref f_Climate_init) = true)
    (l_Climate_init : K.lookup f_Climate_init = some ⟨oc_Climate_init, od_Climate_init, .func (PySem.W.fnOf "__init__" "Climate.__init__" (defArgs s_Climate_init) (defBody s_Climate_init) (defScope s_Climate_init) .none kV_Climate_init dc_Climate_init pm_Climate_init an_Climate_init cd_Climate_init ct_Climate_init), sl_Climate_init⟩)
    (e_Climate_init : PySem.W.codeIn K cd_Climate_init "Climate.__init__" = true)
    (k_Climate_init : PySem.W.keepIn K (.ref f_Climate_init) = true)
    (a_StepSet_eq : PySem.W.findIn K (.ref C_StepSet) "__eq__" = some (some (.ref f_StepSet_eq)))
    (j_StepSet_eq : PySem.W.isFn K (.ref f_StepSet_eq) = true)
    (l_StepSet_eq : K.lookup f_StepSet_eq = some ⟨oc_StepSet_eq, od_StepSet_eq, .func (PySem.W.fnOf "__eq__" "StepSet.__eq__" (defArgs s_StepSet_eq) (defBody s_StepSet_eq) (defScope s_StepSet_eq) .none kV_StepSet_eq dc_StepSet_eq pm_StepSet_eq an_StepSet_eq cd_StepSet_eq ct_StepSet_eq), sl_StepSet_eq⟩)
    (e_StepSet_eq : PySem.W.codeIn K cd_StepSet_eq "StepSet.__eq__" = true)
    (k_StepSet_eq : PySem.W.keepIn K (.ref f_StepSet_eq) = true)
    (a_StepSet_init : PySem.W.findIn K (.ref C_StepSet) "__init__" = some (some (.ref f_StepSet_init)))
    (j_StepSet_init : PySem.W.isFn K (.ref f_StepSet_init) = true)
    (l_StepSet_init : K.lookup f_StepSet_init = some ⟨oc_StepSet_init, od_StepSet_init, .func (PySem.W.fnOf "__init__" "StepSet.__init__" (defArgs s_StepSet_init) (defBody s_StepSet_init) (defScope s_StepSet_init) .none kV_StepSet_init dc_StepSet_init pm_StepSet_init an_StepSet_init cd_StepSet_init ct_StepSet_init), sl_StepSet_init⟩)
    (e_StepSet_init : PySem.W.codeIn K cd_StepSet_init "StepSet.__init__" = true)
    (k_StepSet_init : PySem.W.keepIn K (.ref f_StepSet_init) = true)
    (a_StepSet_or : PySem.W.findIn K (.ref C_StepSet) "__or__" = some (some (.ref f_StepSet_or)))
    (j_StepSet_or : PySem.W.isFn K (.ref f_StepSet_or) = true)
    (l_StepSet_or : K.lookup f_StepSet_or = some ⟨oc_StepSet_or, od_StepSet_or, .func (PySem.W.fnOf "__or__" "StepSet.__or__" (defArgs s_StepSet_or) (defBody s_StepSet_or) (defScope s_StepSet_or) .none kV_StepSet_or dc_StepSet_or pm_StepSet_or an_StepSet_or cd_StepSet_or ct_StepSet_or), sl_StepSet_or⟩)
    (e_StepSet_or : PySem.W.codeIn K cd_StepSet_or "StepSet.__or__" = true)
    (k_StepSet_or : PySem.W.keepIn K (.ref f_StepSet_or) = true)
    (a_f_first_stand : PySem.W.nsIn K mainGlobals "first_stand" = some (some (.ref f_f_first_stand)))
    (l_f_first_stand : K.lookup f_f_first_stand = some ⟨oc_f_first_stand, od_f_first_stand, .func (PySem.W.fnOf "first_stand" "first_stand" (defArgs s_f_first_stand) (defBody s_f_first_stand) (defScope s_f_first_stand) .none kV_f_first_stand dc_f_first_stand pm_f_first_stand an_f_first_stand cd_f_first_stand ct_f_first_stand), sl_f_first_stand⟩)
    (e_f_first_stand : PySem.W.codeIn K cd_f_first_stand "first_stand" = true)
    (k_f_first_stand : PySem.W.keepIn K (.ref f_f_first_stand) = true)
    (a_StepSet_contains : PySem.W.findIn K (.ref C_StepSet) "__contains__" = some (some (.ref f_StepSet_contains)))
    (j_StepSet_contains : PySem.W.isFn K (.ref f_StepSet_contains) = true)
    (l_StepSet_contains : K.lookup f_StepSet_contains = some ⟨oc_StepSet_contains, od_StepSet_contains, .func (PySem.W.fnOf "__contains__" "StepSet.__contains__" (defArgs s_StepSet_contains) (defBody s_StepSet_contains) (defScope s_StepSet_contains) .none kV_StepSet_contains dc_StepSet_contains pm_StepSet_contains an_StepSet_contains cd_StepSet_contains ct_StepSet_contains), sl_StepSet_contains⟩)
    (e_StepSet_contains : PySem.W.codeIn K cd_StepSet_contains "StepSet.__contains__" = true)
    (k_StepSet_contains : PySem.W.keepIn K (.ref f_StepSet_contains) = true)
    (a_StepSet_farthest : PySem.W.findIn K (.ref C_StepSet) "farthest" = some (some (.ref p_StepSet_farthest)))
    (pg_StepSet_farthest : PySem.W.specialIn K (.ref p_StepSet_farthest) "__get__" = some (some (.builtin "property.__get__")))
    (pt_StepSet_farthest : PySem.W.takesIn K (.ref p_StepSet_farthest) = some true)
    (pr_StepSet_farthest : PySem.W.recIn K p_StepSet_farthest "property" = some (.ref f_StepSet_farthest :: rest_StepSet_farthest))
    (l_StepSet_farthest : K.lookup f_StepSet_farthest = some ⟨oc_StepSet_farthest, od_StepSet_farthest, .func (PySem.W.fnOf "farthest" "StepSet.farthest" (defArgs s_StepSet_farthest) (defBody s_StepSet_farthest) (defScope s_StepSet_farthest) .none kV_StepSet_farthest dc_StepSet_farthest pm_StepSet_farthest an_StepSet_farthest cd_StepSet_farthest ct_StepSet_farthest), sl_StepSet_farthest⟩)
    (e_StepSet_farthest : PySem.W.codeIn K cd_StepSet_farthest "StepSet.farthest" = true)
    (k_StepSet_farthest : PySem.W.keepIn K (.ref f_StepSet_farthest) = true)
    (a_Climate_longest : PySem.W.findIn K (.ref C_Climate) "longest" = some (some (.ref f_Climate_longest)))
    (j_Climate_longest : PySem.W.isFn K (.ref f_Climate_longest) = true)
    (l_Climate_longest : K.lookup f_Climate_longest = some ⟨oc_Climate_longest, od_Climate_longest, .func (PySem.W.fnOf "longest" "Climate.longest" (defArgs s_Climate_longest) (defBody s_Climate_longest) (defScope s_Climate_longest) .none kV_Climate_longest dc_Climate_longest pm_Climate_longest an_Climate_longest cd_Climate_longest ct_Climate_longest), sl_Climate_longest⟩)
    (e_Climate_longest : PySem.W.codeIn K cd_Climate_longest "Climate.longest" = true)
    (k_Climate_longest : PySem.W.keepIn K (.ref f_Climate_longest) = true)
    (a_Climate_need : PySem.W.findIn K (.ref C_Climate) "need" = some (some (.ref p_Climate_need)))
    (pg_Climate_need : PySem.W.specialIn K (.ref p_Climate_need) "__get__" = some (some (.builtin "property.__get__")))
    (pt_Climate_need : PySem.W.takesIn K (.ref p_Climate_need) = some true)
    (pr_Climate_need : PySem.W.recIn K p_Climate_need "property" = some (.ref f_Climate_need :: rest_Climate_need))
    (l_Climate_need : K.lookup f_Climate_need = some ⟨oc_Climate_need, od_Climate_need, .func (PySem.W.fnOf "need" "Climate.need" (defArgs s_Climate_need) (defBody s_Climate_need) (defScope s_Climate_need) .none kV_Climate_need dc_Climate_need pm_Climate_need an_Climate_need cd_Climate_need ct_Climate_need), sl_Climate_need⟩)
    (e_Climate_need : PySem.W.codeIn K cd_Climate_need "Climate.need" = true)
    (k_Climate_need : PySem.W.keepIn K (.ref f_Climate_need) = true)
    (a_f_next_sky : PySem.W.nsIn K mainGlobals "next_sky" = some (some (.ref f_f_next_sky)))
    (l_f_next_sky : K.lookup f_f_next_sky = some ⟨oc_f_next_sky, od_f_next_sky, .func (PySem.W.fnOf "next_sky" "next_sky" (defArgs s_f_next_sky) (defBody s_f_next_sky) (defScope s_f_next_sky) .none kV_f_next_sky dc_f_next_sky pm_f_next_sky an_f_next_sky cd_f_next_sky ct_f_next_sky), sl_f_next_sky⟩)
    (e_f_next_sky : PySem.W.codeIn K cd_f_next_sky "next_sky" = true)
    (k_f_next_sky : PySem.W.keepIn K (.ref f_f_next_sky) = true)
    (a_f_next_stand : PySem.W.nsIn K mainGlobals "next_stand" = some (some (.ref f_f_next_stand)))
    (l_f_next_stand : K.lookup f_f_next_stand = some ⟨oc_f_next_stand, od_f_next_stand, .func (PySem.W.fnOf "next_stand" "next_stand" (defArgs s_f_next_stand) (defBody s_f_next_stand) (defScope s_f_next_stand) .none kV_f_next_stand dc_f_next_stand pm_f_next_stand an_f_next_stand cd_f_next_stand ct_f_next_stand), sl_f_next_stand⟩)
    (e_f_next_stand : PySem.W.codeIn K cd_f_next_stand "next_stand" = true)
    (k_f_next_stand : PySem.W.keepIn K (.ref f_f_next_stand) = true)
    (a_l_take : PySem.W.nsIn K mainGlobals "_law_take" = some (some (.ref f_l_take)))
    (l_l_take : K.lookup f_l_take = some ⟨oc_l_take, od_l_take, .func (PySem.W.fnOf "_law_take" "_law_take" (defArgs s_l_take) (defBody s_l_take) (defScope s_l_take) .none kV_l_take dc_l_take pm_l_take an_l_take cd_l_take ct_l_take), sl_l_take⟩)
    (e_l_take : PySem.W.codeIn K cd_l_take "_law_take" = true)
    (k_l_take : PySem.W.keepIn K (.ref f_l_take) = true)
    (a_l_ab : PySem.W.nsIn K mainGlobals "_law_ab" = some (some (.ref f_l_ab)))
    (l_l_ab : K.lookup f_l_ab = some ⟨oc_l_ab, od_l_ab, .func (PySem.W.fnOf "_law_ab" "_law_ab" (defArgs s_l_ab) (defBody s_l_ab) (defScope s_l_ab) .none kV_l_ab dc_l_ab pm_l_ab an_l_ab cd_l_ab ct_l_ab), sl_l_ab⟩)
    (e_l_ab : PySem.W.codeIn K cd_l_ab "_law_ab" = true)
    (k_l_ab : PySem.W.keepIn K (.ref f_l_ab) = true)
    (a_l_cell : PySem.W.nsIn K mainGlobals "_law_cell" = some (some (.ref f_l_cell)))
    (l_l_cell : K.lookup f_l_cell = some ⟨oc_l_cell, od_l_cell, .func (PySem.W.fnOf "_law_cell" "_law_cell" (defArgs s_l_cell) (defBody s_l_cell) (defScope s_l_cell) .none kV_l_cell dc_l_cell pm_l_cell an_l_cell cd_l_cell ct_l_cell), sl_l_cell⟩)
    (e_l_cell : PySem.W.codeIn K cd_l_cell "_law_cell" = true)
    (k_l_cell : PySem.W.keepIn K (.ref f_l_cell) = true)
    (a_StepSet_iter : PySem.W.findIn K (.ref C_StepSet) "__iter__" = some (some (.ref f_StepSet_iter)))
    (j_StepSet_iter : PySem.W.isFn K (.ref f_StepSet_iter) = true)
    (l_StepSet_iter : K.lookup f_StepSet_iter = some ⟨oc_StepSet_iter, od_StepSet_iter, .func (PySem.W.fnOf "__iter__" "StepSet.__iter__" (defArgs s_StepSet_iter) (defBody s_StepSet_iter) (defScope s_StepSet_iter) .none kV_StepSet_iter dc_StepSet_iter pm_StepSet_iter an_StepSet_iter cd_StepSet_iter ct_StepSet_iter), sl_StepSet_iter⟩)
    (e_StepSet_iter : PySem.W.codeIn K cd_StepSet_iter "StepSet.__iter__" = true)
    (k_StepSet_iter : PySem.W.keepIn K (.ref f_StepSet_iter) = true)
    (a_l_same : PySem.W.nsIn K mainGlobals "_law_same" = some (some (.ref f_l_same)))
    (l_l_same : K.lookup f_l_same = some ⟨oc_l_same, od_l_same, .func (PySem.W.fnOf "_law_same" "_law_same" (defArgs s_l_same) (defBody s_l_same) (defScope s_l_same) .none kV_l_same dc_l_same pm_l_same an_l_same cd_l_same ct_l_same), sl_l_same⟩)
    (e_l_same : PySem.W.codeIn K cd_l_same "_law_same" = true)
    (k_l_same : PySem.W.keepIn K (.ref f_l_same) = true)
    (a_l_is : PySem.W.nsIn K mainGlobals "_law_is" = some (some (.ref f_l_is)))
    (l_l_is : K.lookup f_l_is = some ⟨oc_l_is, od_l_is, .func (PySem.W.fnOf "_law_is" "_law_is" (defArgs s_l_is) (defBody s_l_is) (defScope s_l_is) .none kV_l_is dc_l_is pm_l_is an_l_is cd_l_is ct_l_is), sl_l_is⟩)
    (e_l_is : PySem.W.codeIn K cd_l_is "_law_is" = true)
    (k_l_is : PySem.W.keepIn K (.ref f_l_is) = true)
    (a_l_items : PySem.W.nsIn K mainGlobals "_law_items" = some (some (.ref f_l_items)))
    (l_l_items : K.lookup f_l_items = some ⟨oc_l_items, od_l_items, .func (PySem.W.fnOf "_law_items" "_law_items" (defArgs s_l_items) (defBody s_l_items) (defScope s_l_items) .none kV_l_items dc_l_items pm_l_items an_l_items cd_l_items ct_l_items), sl_l_items⟩)
    (e_l_items : PySem.W.codeIn K cd_l_items "_law_items" = true)
    (k_l_items : PySem.W.keepIn K (.ref f_l_items) = true)
    (a_l_kinds : PySem.W.nsIn K mainGlobals "_law_kinds" = some (some (.ref f_l_kinds)))
    (l_l_kinds : K.lookup f_l_kinds = some ⟨oc_l_kinds, od_l_kinds, .func (PySem.W.fnOf "_law_kinds" "_law_kinds" (defArgs s_l_kinds) (defBody s_l_kinds) (defScope s_l_kinds) .none kV_l_kinds dc_l_kinds pm_l_kinds an_l_kinds cd_l_kinds ct_l_kinds), sl_l_kinds⟩)
    (e_l_kinds : PySem.W.codeIn K cd_l_kinds "_law_kinds" = true)
    (k_l_kinds : PySem.W.keepIn K (.ref f_l_kinds) = true)
    (a_l_made : PySem.W.nsIn K mainGlobals "_law_made" = some (some (.ref f_l_made)))
    (l_l_made : K.lookup f_l_made = some ⟨oc_l_made, od_l_made, .func (PySem.W.fnOf "_law_made" "_law_made" (defArgs s_l_made) (defBody s_l_made) (defScope s_l_made) .none kV_l_made dc_l_made pm_l_made an_l_made cd_l_made ct_l_made), sl_l_made⟩)
    (e_l_made : PySem.W.codeIn K cd_l_made "_law_made" = true)
    (k_l_made : PySem.W.keepIn K (.ref f_l_made) = true)
    (a_l_least_run : PySem.W.nsIn K mainGlobals "_law_least_run" = some (some (.ref f_l_least_run)))
    (l_l_least_run : K.lookup f_l_least_run = some ⟨oc_l_least_run, od_l_least_run, .func (PySem.W.fnOf "_law_least_run" "_law_least_run" (defArgs s_l_least_run) (defBody s_l_least_run) (defScope s_l_least_run) .none kV_l_least_run dc_l_least_run pm_l_least_run an_l_least_run cd_l_least_run ct_l_least_run), sl_l_least_run⟩)
    (e_l_least_run : PySem.W.codeIn K cd_l_least_run "_law_least_run" = true)
    (k_l_least_run : PySem.W.keepIn K (.ref f_l_least_run) = true)
    (a_l_plain : PySem.W.nsIn K mainGlobals "_law_plain" = some (some (.ref f_l_plain)))
    (l_l_plain : K.lookup f_l_plain = some ⟨oc_l_plain, od_l_plain, .func (PySem.W.fnOf "_law_plain" "_law_plain" (defArgs s_l_plain) (defBody s_l_plain) (defScope s_l_plain) .none kV_l_plain dc_l_plain pm_l_plain an_l_plain cd_l_plain ct_l_plain), sl_l_plain⟩)
    (e_l_plain : PySem.W.codeIn K cd_l_plain "_law_plain" = true)
    (k_l_plain : PySem.W.keepIn K (.ref f_l_plain) = true)
    (a_l_need : PySem.W.nsIn K mainGlobals "_law_need" = some (some (.ref f_l_need)))
    (l_l_need : K.lookup f_l_need = some ⟨oc_l_need, od_l_need, .func (PySem.W.fnOf "_law_need" "_law_need" (defArgs s_l_need) (defBody s_l_need) (defScope s_l_need) .none kV_l_need dc_l_need pm_l_need an_l_need cd_l_need ct_l_need), sl_l_need⟩)
    (e_l_need : PySem.W.codeIn K cd_l_need "_law_need" = true)
    (k_l_need : PySem.W.keepIn K (.ref f_l_need) = true)
    (a_l_ages : PySem.W.nsIn K mainGlobals "_law_ages" = some (some (.ref f_l_ages)))
    (l_l_ages : K.lookup f_l_ages = some ⟨oc_l_ages, od_l_ages, .func (PySem.W.fnOf "_law_ages" "_law_ages" (defArgs s_l_ages) (defBody s_l_ages) (defScope s_l_ages) .none kV_l_ages dc_l_ages pm_l_ages an_l_ages cd_l_ages ct_l_ages), sl_l_ages⟩)
    (e_l_ages : PySem.W.codeIn K cd_l_ages "_law_ages" = true)
    (k_l_ages : PySem.W.keepIn K (.ref f_l_ages) = true)
    (a_l_longest : PySem.W.nsIn K mainGlobals "_law_longest" = some (some (.ref f_l_longest)))
    (l_l_longest : K.lookup f_l_longest = some ⟨oc_l_longest, od_l_longest, .func (PySem.W.fnOf "_law_longest" "_law_longest" (defArgs s_l_longest) (defBody s_l_longest) (defScope s_l_longest) .none kV_l_longest dc_l_longest pm_l_longest an_l_longest cd_l_longest ct_l_longest), sl_l_longest⟩)
    (e_l_longest : PySem.W.codeIn K cd_l_longest "_law_longest" = true)
    (k_l_longest : PySem.W.keepIn K (.ref f_l_longest) = true)
    (a_l_sky : PySem.W.nsIn K mainGlobals "_law_sky" = some (some (.ref f_l_sky)))
    (l_l_sky : K.lookup f_l_sky = some ⟨oc_l_sky, od_l_sky, .func (PySem.W.fnOf "_law_sky" "_law_sky" (defArgs s_l_sky) (defBody s_l_sky) (defScope s_l_sky) .none kV_l_sky dc_l_sky pm_l_sky an_l_sky cd_l_sky ct_l_sky), sl_l_sky⟩)
    (e_l_sky : PySem.W.codeIn K cd_l_sky "_law_sky" = true)
    (k_l_sky : PySem.W.keepIn K (.ref f_l_sky) = true)
    (a_l_stand : PySem.W.nsIn K mainGlobals "_law_stand" = some (some (.ref f_l_stand)))
    (l_l_stand : K.lookup f_l_stand = some ⟨oc_l_stand, od_l_stand, .func (PySem.W.fnOf "_law_stand" "_law_stand" (defArgs s_l_stand) (defBody s_l_stand) (defScope s_l_stand) .none kV_l_stand dc_l_stand pm_l_stand an_l_stand cd_l_stand ct_l_stand), sl_l_stand⟩)
    (e_l_stand : PySem.W.codeIn K cd_l_stand "_law_stand" = true)
    (k_l_stand : PySem.W.keepIn K (.ref f_l_stand) = true)
    (a_l_odd_right : PySem.W.nsIn K mainGlobals "_law_odd_right" = some (some (.ref f_l_odd_right)))
    (l_l_odd_right : K.lookup f_l_odd_right = some ⟨oc_l_odd_right, od_l_odd_right, .func (PySem.W.fnOf "_law_odd_right" "_law_odd_right" (defArgs s_l_odd_right) (defBody s_l_odd_right) (defScope s_l_odd_right) .none kV_l_odd_right dc_l_odd_right pm_l_odd_right an_l_odd_right cd_l_odd_right ct_l_odd_right), sl_l_odd_right⟩)
    (e_l_odd_right : PySem.W.codeIn K cd_l_odd_right "_law_odd_right" = true)
    (k_l_odd_right : PySem.W.keepIn K (.ref f_l_odd_right) = true)
    (a_Lacquer_init : PySem.W.findIn K (.ref C_Lacquer) "__init__" = some (some (.ref f_Lacquer_init)))
    (j_Lacquer_init : PySem.W.isFn K (.ref f_Lacquer_init) = true)
    (l_Lacquer_init : K.lookup f_Lacquer_init = some ⟨oc_Lacquer_init, od_Lacquer_init, .func (PySem.W.fnOf "__init__" "Lacquer.__init__" (defArgs s_Lacquer_init) (defBody s_Lacquer_init) (defScope s_Lacquer_init) .none kV_Lacquer_init dc_Lacquer_init pm_Lacquer_init an_Lacquer_init cd_Lacquer_init ct_Lacquer_init), sl_Lacquer_init⟩)
    (e_Lacquer_init : PySem.W.codeIn K cd_Lacquer_init "Lacquer.__init__" = true)
    (k_Lacquer_init : PySem.W.keepIn K (.ref f_Lacquer_init) = true)
    (a_StepSet_of : PySem.W.findCls K (.ref C_StepSet) (.type "type") "of" = some (.get (.builtin "staticmethod.__get__") (.ref p_StepSet_of) .none (.ref C_StepSet)))
    (pr_StepSet_of : PySem.W.recIn K p_StepSet_of "staticmethod" = some (.ref f_StepSet_of :: rest_StepSet_of))
    (l_StepSet_of : K.lookup f_StepSet_of = some ⟨oc_StepSet_of, od_StepSet_of, .func (PySem.W.fnOf "of" "StepSet.of" (defArgs s_StepSet_of) (defBody s_StepSet_of) (defScope s_StepSet_of) .none kV_StepSet_of dc_StepSet_of pm_StepSet_of an_StepSet_of cd_StepSet_of ct_StepSet_of), sl_StepSet_of⟩)
    (e_StepSet_of : PySem.W.codeIn K cd_StepSet_of "StepSet.of" = true)
    (k_StepSet_of : PySem.W.keepIn K (.ref f_StepSet_of) = true)
    (a_l_of : PySem.W.nsIn K mainGlobals "_law_of" = some (some (.ref f_l_of)))
    (l_l_of : K.lookup f_l_of = some ⟨oc_l_of, od_l_of, .func (PySem.W.fnOf "_law_of" "_law_of" (defArgs s_l_of) (defBody s_l_of) (defScope s_l_of) .none kV_l_of dc_l_of pm_l_of an_l_of cd_l_of ct_l_of), sl_l_of⟩)
    (e_l_of : PySem.W.codeIn K cd_l_of "_law_of" = true)
    (k_l_of : PySem.W.keepIn K (.ref f_l_of) = true)
    (a_l_pool : PySem.W.nsIn K mainGlobals "_law_pool" = some (some (.ref f_l_pool)))
    (l_l_pool : K.lookup f_l_pool = some ⟨oc_l_pool, od_l_pool, .func (PySem.W.fnOf "_law_pool" "_law_pool" (defArgs s_l_pool) (defBody s_l_pool) (defScope s_l_pool) .none kV_l_pool dc_l_pool pm_l_pool an_l_pool cd_l_pool ct_l_pool), sl_l_pool⟩)
    (e_l_pool : PySem.W.codeIn K cd_l_pool "_law_pool" = true)
    (k_l_pool : PySem.W.keepIn K (.ref f_l_pool) = true)
    (a_l_signs_of : PySem.W.nsIn K mainGlobals "_law_signs_of" = some (some (.ref f_l_signs_of)))
    (l_l_signs_of : K.lookup f_l_signs_of = some ⟨oc_l_signs_of, od_l_signs_of, .func (PySem.W.fnOf "_law_signs_of" "_law_signs_of" (defArgs s_l_signs_of) (defBody s_l_signs_of) (defScope s_l_signs_of) .none kV_l_signs_of dc_l_signs_of pm_l_signs_of an_l_signs_of cd_l_signs_of ct_l_signs_of), sl_l_signs_of⟩)
    (e_l_signs_of : PySem.W.codeIn K cd_l_signs_of "_law_signs_of" = true)
    (k_l_signs_of : PySem.W.keepIn K (.ref f_l_signs_of) = true)
    (a_l_some_stand : PySem.W.nsIn K mainGlobals "_law_some_stand" = some (some (.ref f_l_some_stand)))
    (l_l_some_stand : K.lookup f_l_some_stand = some ⟨oc_l_some_stand, od_l_some_stand, .func (PySem.W.fnOf "_law_some_stand" "_law_some_stand" (defArgs s_l_some_stand) (defBody s_l_some_stand) (defScope s_l_some_stand) .none kV_l_some_stand dc_l_some_stand pm_l_some_stand an_l_some_stand cd_l_some_stand ct_l_some_stand), sl_l_some_stand⟩)
    (e_l_some_stand : PySem.W.codeIn K cd_l_some_stand "_law_some_stand" = true)
    (k_l_some_stand : PySem.W.keepIn K (.ref f_l_some_stand) = true)
    (a_l_law : PySem.W.nsIn K mainGlobals "law" = some (some (.ref f_l_law)))
    (l_l_law : K.lookup f_l_law = some ⟨oc_l_law, od_l_law, .func (PySem.W.fnOf "law" "law" (defArgs s_l_law) (defBody s_l_law) (defScope s_l_law) .none kV_l_law dc_l_law pm_l_law an_l_law cd_l_law ct_l_law), sl_l_law⟩)
    (e_l_law : PySem.W.codeIn K cd_l_law "law" = true)
    (k_l_law : PySem.W.keepIn K (.ref f_l_law) = true) :
    ∃ fd : FuncData, (∀ (s : Shared) (v : Value), BindsTo s fd ⟨[v], []⟩ [("script", v)]) ∧ ∀ base : Heap, K.In base → base.Ns mainGlobals mg → FnOk l.prog w K mg base CX0 8 fa fd ["script"] (spLaw K) := by
  have e := hfa.symm.trans (PySem.W.mg_of X G a_l_law)
  cases e
  have T_BadKind : S_BadKind K mg ((adOf C_BadKind C_BadLacquer C_BadSteps C_Climate C_DampError C_Lacquer C_StepSet C_TooLarge) .BadKind) := ⟨PySem.W.mg_of X G a_BadKind, c_BadKind_x, c_BadKind_kp, c_BadKind_b, c_BadKind_t, c_BadKind_i, c_BadKind_s, c_BadKind_hg, c_BadKind_hk, c_BadKind_hd, c_BadKind_ha, c_BadKind_hn, c_BadKind_ht, c_BadKind_hm⟩
  have T_BadLacquer : S_BadLacquer K mg ((adOf C_BadKind C_BadLacquer C_BadSteps C_Climate C_DampError C_Lacquer C_StepSet C_TooLarge) .BadLacquer) := ⟨PySem.W.mg_of X G a_BadLacquer, c_BadLacquer_x, c_BadLacquer_kp, c_BadLacquer_b, c_BadLacquer_t, c_BadLacquer_i, c_BadLacquer_s, c_BadLacquer_hg, c_BadLacquer_hk, c_BadLacquer_hd, c_BadLacquer_ha, c_BadLacquer_hn, c_BadLacquer_ht, c_BadLacquer_hm⟩
  have T_BadSteps : S_BadSteps K mg ((adOf C_BadKind C_BadLacquer C_BadSteps C_Climate C_DampError C_Lacquer C_StepSet C_TooLarge) .BadSteps) := ⟨PySem.W.mg_of X G a_BadSteps, c_BadSteps_x, c_BadSteps_kp, c_BadSteps_b, c_BadSteps_t, c_BadSteps_i, c_BadSteps_s, c_BadSteps_hg, c_BadSteps_hk, c_BadSteps_hd, c_BadSteps_ha, c_BadSteps_hn, c_BadSteps_ht, c_BadSteps_hm⟩
  have T_Climate : S_Climate K mg ((adOf C_BadKind C_BadLacquer C_BadSteps C_Climate C_DampError C_Lacquer C_StepSet C_TooLarge) .Climate) := ⟨c_Climate_pg, c_Climate_hd, c_Climate_po, c_Climate_sa, PySem.W.mg_of X G a_Climate, c_Climate_sf, c_Climate_nf, c_Climate_ha, c_Climate_hn, c_Climate_ht, c_Climate_hm, c_Climate_kp, c_Climate_mkk, c_Climate_n_kinds⟩
  have T_DampError : S_DampError K mg ((adOf C_BadKind C_BadLacquer C_BadSteps C_Climate C_DampError C_Lacquer C_StepSet C_TooLarge) .DampError) := ⟨PySem.W.mg_of X G a_DampError, c_DampError_x, c_DampError_kp, c_DampError_b, c_DampError_t, c_DampError_i, c_DampError_s, c_DampError_hg, c_DampError_hk, c_DampError_hd, c_DampError_ha, c_DampError_hn, c_DampError_ht, c_DampError_hm⟩
  have T_Lacquer : S_Lacquer K mg ((adOf C_BadKind C_BadLacquer C_BadSteps C_Climate C_DampError C_Lacquer C_StepSet C_TooLarge) .Lacquer) := ⟨c_Lacquer_pg, c_Lacquer_hd, c_Lacquer_po, c_Lacquer_sa, PySem.W.mg_of X G a_Lacquer, c_Lacquer_sf, c_Lacquer_nf, c_Lacquer_ha, c_Lacquer_hn, c_Lacquer_ht, c_Lacquer_hm, c_Lacquer_kp, c_Lacquer_mkk, ⟨_, c_Lacquer_v_MOST, ⟨_, rfl⟩⟩, c_Lacquer_rd, c_Lacquer_ga, c_Lacquer_n_a, c_Lacquer_n_b⟩
  have T_StepSet : S_StepSet K mg ((adOf C_BadKind C_BadLacquer C_BadSteps C_Climate C_DampError C_Lacquer C_StepSet C_TooLarge) .StepSet) := ⟨c_StepSet_pg, c_StepSet_hd, c_StepSet_po, c_StepSet_sa, PySem.W.mg_of X G a_StepSet, c_StepSet_sf, c_StepSet_nf, c_StepSet_ha, c_StepSet_hn, c_StepSet_ht, c_StepSet_hm, c_StepSet_kp, c_StepSet_mkk, c_StepSet_rd, c_StepSet_ga, c_StepSet_n___len__, c_StepSet_n___length_hint__, c_StepSet_n_steps⟩
  have T_TooLarge : S_TooLarge K mg ((adOf C_BadKind C_BadLacquer C_BadSteps C_Climate C_DampError C_Lacquer C_StepSet C_TooLarge) .TooLarge) := ⟨PySem.W.mg_of X G a_TooLarge, c_TooLarge_x, c_TooLarge_kp, c_TooLarge_b, c_TooLarge_t, c_TooLarge_i, c_TooLarge_s, c_TooLarge_hg, c_TooLarge_hk, c_TooLarge_hd, c_TooLarge_ha, c_TooLarge_hn, c_TooLarge_ht, c_TooLarge_hm⟩
  have z_ValueError : mg "ValueError" = none := PySem.W.mg_none_of X G y_ValueError
  have z_any : mg "any" = none := PySem.W.mg_none_of X G y_any
  have z_bool : mg "bool" = none := PySem.W.mg_none_of X G y_bool
  have z_int : mg "int" = none := PySem.W.mg_none_of X G y_int
  have z_isinstance : mg "isinstance" = none := PySem.W.mg_none_of X G y_isinstance
  have z_iter : mg "iter" = none := PySem.W.mg_none_of X G y_iter
  have z_len : mg "len" = none := PySem.W.mg_none_of X G y_len
  have z_list : mg "list" = none := PySem.W.mg_none_of X G y_list
  have z_max : mg "max" = none := PySem.W.mg_none_of X G y_max
  have z_min : mg "min" = none := PySem.W.mg_none_of X G y_min
  have z_range : mg "range" = none := PySem.W.mg_none_of X G y_range
  have z_set : mg "set" = none := PySem.W.mg_none_of X G y_set
  have z_sorted : mg "sorted" = none := PySem.W.mg_none_of X G y_sorted
  have z_str : mg "str" = none := PySem.W.mg_none_of X G y_str
  have z_tuple : mg "tuple" = none := PySem.W.mg_none_of X G y_tuple
  have g_DAMP_WORD : ∃ u, mg "DAMP_WORD" = some u ∧ RelV (.str "damp") u := ⟨_, PySem.W.mg_of X G y_DAMP_WORD, ⟨_, rfl⟩⟩
  have g_DRY : ∃ u, mg "DRY" = some u ∧ RelV (.str ".") u := ⟨_, PySem.W.mg_of X G y_DRY, ⟨_, rfl⟩⟩
  have g_DRY_WORD : ∃ u, mg "DRY_WORD" = some u ∧ RelV (.str "dry") u := ⟨_, PySem.W.mg_of X G y_DRY_WORD, ⟨_, rfl⟩⟩
  have g_FIRST_SKY : ∃ a, mg "FIRST_SKY" = some (.ref a) ∧ KTup K a [.str "dry", .int 1] := ⟨_, PySem.W.mg_of X G y_FIRST_SKY, _, _, _, yl_FIRST_SKY, rfl, rfl, by rw [sizeLine_eq]; show 2 ≤ 16777216; decide, (.cons ⟨_, rfl⟩ (.cons ⟨_, rfl⟩ .nil))⟩
  have g_MOST_KINDS : ∃ u, mg "MOST_KINDS" = some u ∧ RelV (.int 300) u := ⟨_, PySem.W.mg_of X G y_MOST_KINDS, ⟨_, rfl⟩⟩
  have g_MOST_RUN : ∃ u, mg "MOST_RUN" = some u ∧ RelV (.int 120) u := ⟨_, PySem.W.mg_of X G y_MOST_RUN, ⟨_, rfl⟩⟩
  have g_MOST_SPELL : ∃ u, mg "MOST_SPELL" = some u ∧ RelV (.int 16) u := ⟨_, PySem.W.mg_of X G y_MOST_SPELL, ⟨_, rfl⟩⟩
  have g_MOST_STEP : ∃ u, mg "MOST_STEP" = some u ∧ RelV (.int 8) u := ⟨_, PySem.W.mg_of X G y_MOST_STEP, ⟨_, rfl⟩⟩
  refine ⟨PySem.W.fnOf "law" "law" (defArgs s_l_law) (defBody s_l_law) (defScope s_l_law) .none kV_l_law dc_l_law pm_l_law an_l_law cd_l_law ct_l_law, fun s v => .of_eq rfl, fun base _ _ => ?_⟩
  have F_f_check_kind := fun_mk (st := s_f_check_kind) l_f_check_kind e_f_check_kind k_f_check_kind
  have b_f_check_kind := F_f_check_kind.binds (ps := ["w", "g"]) fun _ _ _ _ _ _ us hl => match us, hl with | [_, _], _ => rfl
  have m_f_check_kind := PySem.W.mg_of X G a_f_check_kind
  have O_f_check_kind : FnOk l.prog w K mg base (L2.CX l.prog w) 1 f_f_check_kind _ ["w", "g"] (spP K (adOf C_BadKind C_BadLacquer C_BadSteps C_Climate C_DampError C_Lacquer C_StepSet C_TooLarge) 2 G_f_check_kind) := ok_f_check_kind (ad := (adOf C_BadKind C_BadLacquer C_BadSteps C_Climate C_DampError C_Lacquer C_StepSet C_TooLarge)) F_f_check_kind (T_BadKind := T_BadKind) (g_MOST_RUN := g_MOST_RUN) (g_MOST_SPELL := g_MOST_SPELL)
  have F_f_check_kinds := fun_mk (st := s_f_check_kinds) l_f_check_kinds e_f_check_kinds k_f_check_kinds
  have b_f_check_kinds := F_f_check_kinds.binds (ps := ["kinds"]) fun _ _ _ _ _ _ us hl => match us, hl with | [_], _ => rfl
  have m_f_check_kinds := PySem.W.mg_of X G a_f_check_kinds
  have O_f_check_kinds : FnOk l.prog w K mg base (L2.CX l.prog w) 2 f_f_check_kinds _ ["kinds"] (spP K (adOf C_BadKind C_BadLacquer C_BadSteps C_Climate C_DampError C_Lacquer C_StepSet C_TooLarge) 1 G_f_check_kinds) := ok_f_check_kinds (ad := (adOf C_BadKind C_BadLacquer C_BadSteps C_Climate C_DampError C_Lacquer C_StepSet C_TooLarge)) F_f_check_kinds (T_BadKind := T_BadKind) (z_len := z_len) (g_MOST_KINDS := g_MOST_KINDS) (O_f_check_kind := O_f_check_kind) (m_f_check_kind := m_f_check_kind) (k_f_check_kind := k_f_check_kind) (b_f_check_kind := b_f_check_kind)
  have F_f_plain_list := fun_mk (st := s_f_plain_list) l_f_plain_list e_f_plain_list k_f_plain_list
  have b_f_plain_list := F_f_plain_list.binds (ps := ["kinds"]) fun _ _ _ _ _ _ us hl => match us, hl with | [_], _ => rfl
  have m_f_plain_list := PySem.W.mg_of X G a_f_plain_list
  have O_f_plain_list : FnOk l.prog w K mg base CX0 1 f_f_plain_list _ ["kinds"] (spP K (adOf C_BadKind C_BadLacquer C_BadSteps C_Climate C_DampError C_Lacquer C_StepSet C_TooLarge) 1 G_f_plain_list) := ok_f_plain_list (ad := (adOf C_BadKind C_BadLacquer C_BadSteps C_Climate C_DampError C_Lacquer C_StepSet C_TooLarge)) F_f_plain_list (z_min := z_min) (z_sorted := z_sorted)
  have F_Climate_init := fun_mk (st := s_Climate_init) l_Climate_init e_Climate_init k_Climate_init
  have b_Climate_init := F_Climate_init.binds (ps := ["self", "kinds"]) fun _ _ _ _ _ _ us hl => match us, hl with | [_, _], _ => rfl
  have I_Climate : Mk K ((adOf C_BadKind C_BadLacquer C_BadSteps C_Climate C_DampError C_Lacquer C_StepSet C_TooLarge) .Climate) f_Climate_init := ⟨c_Climate_mkk, a_Climate_init, j_Climate_init, c_Climate_kp⟩
  have O_Climate_init : FnOk l.prog w K mg base (L2.CX l.prog w) 3 f_Climate_init _ ["self", "kinds"] (spP K (adOf C_BadKind C_BadLacquer C_BadSteps C_Climate C_DampError C_Lacquer C_StepSet C_TooLarge) 2 G_Climate_init) := ok_Climate_init (ad := (adOf C_BadKind C_BadLacquer C_BadSteps C_Climate C_DampError C_Lacquer C_StepSet C_TooLarge)) F_Climate_init (T_Climate := T_Climate) (z_tuple := z_tuple) (O_f_check_kinds := O_f_check_kinds) (m_f_check_kinds := m_f_check_kinds) (k_f_check_kinds := k_f_check_kinds) (b_f_check_kinds := b_f_check_kinds) (O_f_plain_list := O_f_plain_list) (m_f_plain_list := m_f_plain_list) (k_f_plain_list := k_f_plain_list) (b_f_plain_list := b_f_plain_list)
  have F_StepSet_eq := fun_mk (st := s_StepSet_eq) l_StepSet_eq e_StepSet_eq k_StepSet_eq
  have b_StepSet_eq := F_StepSet_eq.binds (ps := ["self", "other"]) fun _ _ _ _ _ _ us hl => match us, hl with | [_, _], _ => rfl
  have M_StepSet_eq : Meth K ((adOf C_BadKind C_BadLacquer C_BadSteps C_Climate C_DampError C_Lacquer C_StepSet C_TooLarge) .StepSet) "__eq__" f_StepSet_eq := ⟨a_StepSet_eq, j_StepSet_eq, k_StepSet_eq⟩
  have O_StepSet_eq : FnOk l.prog w K mg base CX0 1 f_StepSet_eq _ ["self", "other"] (spP K (adOf C_BadKind C_BadLacquer C_BadSteps C_Climate C_DampError C_Lacquer C_StepSet C_TooLarge) 2 G_StepSet_eq) := ok_StepSet_eq (ad := (adOf C_BadKind C_BadLacquer C_BadSteps C_Climate C_DampError C_Lacquer C_StepSet C_TooLarge)) F_StepSet_eq (T_StepSet := T_StepSet) (z_isinstance := z_isinstance) (kit_NoneType_StepSet := kit_NoneType_StepSet) (kit_StepSet_StepSet := kit_StepSet_StepSet)
  have F_StepSet_init := fun_mk (st := s_StepSet_init) l_StepSet_init e_StepSet_init k_StepSet_init
  have b_StepSet_init := F_StepSet_init.binds (ps := ["self", "steps"]) fun _ _ _ _ _ _ us hl => match us, hl with | [_, _], _ => rfl
  have I_StepSet : Mk K ((adOf C_BadKind C_BadLacquer C_BadSteps C_Climate C_DampError C_Lacquer C_StepSet C_TooLarge) .StepSet) f_StepSet_init := ⟨c_StepSet_mkk, a_StepSet_init, j_StepSet_init, c_StepSet_kp⟩
  have O_StepSet_init : FnOk l.prog w K mg base (L2.CX l.prog w) 1 f_StepSet_init _ ["self", "steps"] (spP K (adOf C_BadKind C_BadLacquer C_BadSteps C_Climate C_DampError C_Lacquer C_StepSet C_TooLarge) 2 G_StepSet_init) := ok_StepSet_init (ad := (adOf C_BadKind C_BadLacquer C_BadSteps C_Climate C_DampError C_Lacquer C_StepSet C_TooLarge)) F_StepSet_init (T_BadSteps := T_BadSteps) (T_StepSet := T_StepSet) (z_max := z_max) (z_min := z_min) (z_set := z_set) (z_sorted := z_sorted) (z_tuple := z_tuple) (g_MOST_STEP := g_MOST_STEP)
  have F_StepSet_or := fun_mk (st := s_StepSet_or) l_StepSet_or e_StepSet_or k_StepSet_or
  have b_StepSet_or := F_StepSet_or.binds (ps := ["self", "other"]) fun _ _ _ _ _ _ us hl => match us, hl with | [_, _], _ => rfl
  have M_StepSet_or : Meth K ((adOf C_BadKind C_BadLacquer C_BadSteps C_Climate C_DampError C_Lacquer C_StepSet C_TooLarge) .StepSet) "__or__" f_StepSet_or := ⟨a_StepSet_or, j_StepSet_or, k_StepSet_or⟩
  have O_StepSet_or : FnOk l.prog w K mg base (L2.CX l.prog w) 3 f_StepSet_or _ ["self", "other"] (spP K (adOf C_BadKind C_BadLacquer C_BadSteps C_Climate C_DampError C_Lacquer C_StepSet C_TooLarge) 2 G_StepSet_or) := ok_StepSet_or (ad := (adOf C_BadKind C_BadLacquer C_BadSteps C_Climate C_DampError C_Lacquer C_StepSet C_TooLarge)) F_StepSet_or (T_StepSet := T_StepSet) (O_StepSet_init := O_StepSet_init) (b_StepSet_init := b_StepSet_init) (I_StepSet := I_StepSet)
  have F_f_first_stand := fun_mk (st := s_f_first_stand) l_f_first_stand e_f_first_stand k_f_first_stand
  have b_f_first_stand := F_f_first_stand.binds (ps := []) fun _ _ _ _ _ _ us hl => match us, hl with | [], _ => rfl
  have m_f_first_stand := PySem.W.mg_of X G a_f_first_stand
  have O_f_first_stand : FnOk l.prog w K mg base CX0 1 f_f_first_stand _ [] (spP K (adOf C_BadKind C_BadLacquer C_BadSteps C_Climate C_DampError C_Lacquer C_StepSet C_TooLarge) 0 G_f_first_stand) := ok_f_first_stand (ad := (adOf C_BadKind C_BadLacquer C_BadSteps C_Climate C_DampError C_Lacquer C_StepSet C_TooLarge)) F_f_first_stand (g_FIRST_SKY := g_FIRST_SKY)
  have F_StepSet_contains := fun_mk (st := s_StepSet_contains) l_StepSet_contains e_StepSet_contains k_StepSet_contains
  have b_StepSet_contains := F_StepSet_contains.binds (ps := ["self", "step"]) fun _ _ _ _ _ _ us hl => match us, hl with | [_, _], _ => rfl
  have M_StepSet_contains : Meth K ((adOf C_BadKind C_BadLacquer C_BadSteps C_Climate C_DampError C_Lacquer C_StepSet C_TooLarge) .StepSet) "__contains__" f_StepSet_contains := ⟨a_StepSet_contains, j_StepSet_contains, k_StepSet_contains⟩
  have O_StepSet_contains : FnOk l.prog w K mg base CX0 1 f_StepSet_contains _ ["self", "step"] (spP K (adOf C_BadKind C_BadLacquer C_BadSteps C_Climate C_DampError C_Lacquer C_StepSet C_TooLarge) 2 G_StepSet_contains) := ok_StepSet_contains (ad := (adOf C_BadKind C_BadLacquer C_BadSteps C_Climate C_DampError C_Lacquer C_StepSet C_TooLarge)) F_StepSet_contains (T_StepSet := T_StepSet)
  have F_StepSet_farthest := fun_mk (st := s_StepSet_farthest) l_StepSet_farthest e_StepSet_farthest k_StepSet_farthest
  have b_StepSet_farthest := F_StepSet_farthest.binds (ps := ["self"]) fun _ _ _ _ _ _ us hl => match us, hl with | [_], _ => rfl
  have P_StepSet_farthest : PropOf K ((adOf C_BadKind C_BadLacquer C_BadSteps C_Climate C_DampError C_Lacquer C_StepSet C_TooLarge) .StepSet) "farthest" p_StepSet_farthest f_StepSet_farthest := ⟨a_StepSet_farthest, pg_StepSet_farthest, pt_StepSet_farthest, ⟨rest_StepSet_farthest, pr_StepSet_farthest⟩⟩
  have O_StepSet_farthest : FnOk l.prog w K mg base CX0 1 f_StepSet_farthest _ ["self"] (spP K (adOf C_BadKind C_BadLacquer C_BadSteps C_Climate C_DampError C_Lacquer C_StepSet C_TooLarge) 1 G_StepSet_farthest) := ok_StepSet_farthest (ad := (adOf C_BadKind C_BadLacquer C_BadSteps C_Climate C_DampError C_Lacquer C_StepSet C_TooLarge)) F_StepSet_farthest (T_StepSet := T_StepSet)
  have F_Climate_longest := fun_mk (st := s_Climate_longest) l_Climate_longest e_Climate_longest k_Climate_longest
  have b_Climate_longest := F_Climate_longest.binds (ps := ["self", "run"]) fun _ _ _ _ _ _ us hl => match us, hl with | [_, _], _ => rfl
  have M_Climate_longest : Meth K ((adOf C_BadKind C_BadLacquer C_BadSteps C_Climate C_DampError C_Lacquer C_StepSet C_TooLarge) .Climate) "longest" f_Climate_longest := ⟨a_Climate_longest, j_Climate_longest, k_Climate_longest⟩
  have O_Climate_longest : FnOk l.prog w K mg base CX0 1 f_Climate_longest _ ["self", "run"] (spP K (adOf C_BadKind C_BadLacquer C_BadSteps C_Climate C_DampError C_Lacquer C_StepSet C_TooLarge) 2 G_Climate_longest) := ok_Climate_longest (ad := (adOf C_BadKind C_BadLacquer C_BadSteps C_Climate C_DampError C_Lacquer C_StepSet C_TooLarge)) F_Climate_longest (T_Climate := T_Climate) (z_max := z_max)
  have F_Climate_need := fun_mk (st := s_Climate_need) l_Climate_need e_Climate_need k_Climate_need
  have b_Climate_need := F_Climate_need.binds (ps := ["self"]) fun _ _ _ _ _ _ us hl => match us, hl with | [_], _ => rfl
  have P_Climate_need : PropOf K ((adOf C_BadKind C_BadLacquer C_BadSteps C_Climate C_DampError C_Lacquer C_StepSet C_TooLarge) .Climate) "need" p_Climate_need f_Climate_need := ⟨a_Climate_need, pg_Climate_need, pt_Climate_need, ⟨rest_Climate_need, pr_Climate_need⟩⟩
  have O_Climate_need : FnOk l.prog w K mg base CX0 1 f_Climate_need _ ["self"] (spP K (adOf C_BadKind C_BadLacquer C_BadSteps C_Climate C_DampError C_Lacquer C_StepSet C_TooLarge) 1 G_Climate_need) := ok_Climate_need (ad := (adOf C_BadKind C_BadLacquer C_BadSteps C_Climate C_DampError C_Lacquer C_StepSet C_TooLarge)) F_Climate_need (T_Climate := T_Climate) (z_max := z_max)
  have F_f_next_sky := fun_mk (st := s_f_next_sky) l_f_next_sky e_f_next_sky k_f_next_sky
  have b_f_next_sky := F_f_next_sky.binds (ps := ["climate", "sky", "sign"]) fun _ _ _ _ _ _ us hl => match us, hl with | [_, _, _], _ => rfl
  have m_f_next_sky := PySem.W.mg_of X G a_f_next_sky
  have O_f_next_sky : FnOk l.prog w K mg base CX0 3 f_f_next_sky _ ["climate", "sky", "sign"] (spP K (adOf C_BadKind C_BadLacquer C_BadSteps C_Climate C_DampError C_Lacquer C_StepSet C_TooLarge) 3 G_f_next_sky) := ok_f_next_sky (ad := (adOf C_BadKind C_BadLacquer C_BadSteps C_Climate C_DampError C_Lacquer C_StepSet C_TooLarge)) F_f_next_sky (T_Climate := T_Climate) (z_max := z_max) (z_min := z_min) (g_DAMP_WORD := g_DAMP_WORD) (g_DRY := g_DRY) (g_DRY_WORD := g_DRY_WORD) (O_Climate_longest := O_Climate_longest) (b_Climate_longest := b_Climate_longest) (M_Climate_longest := M_Climate_longest) (O_Climate_need := O_Climate_need) (b_Climate_need := b_Climate_need) (P_Climate_need := P_Climate_need)
  have F_f_next_stand := fun_mk (st := s_f_next_stand) l_f_next_stand e_f_next_stand k_f_next_stand
  have b_f_next_stand := F_f_next_stand.binds (ps := ["steps", "climate", "stand", "sign"]) fun _ _ _ _ _ _ us hl => match us, hl with | [_, _, _, _], _ => rfl
  have m_f_next_stand := PySem.W.mg_of X G a_f_next_stand
  have O_f_next_stand : FnOk l.prog w K mg base CX0 4 f_f_next_stand _ ["steps", "climate", "stand", "sign"] (spP K (adOf C_BadKind C_BadLacquer C_BadSteps C_Climate C_DampError C_Lacquer C_StepSet C_TooLarge) 4 G_f_next_stand) := ok_f_next_stand (ad := (adOf C_BadKind C_BadLacquer C_BadSteps C_Climate C_DampError C_Lacquer C_StepSet C_TooLarge)) F_f_next_stand (T_StepSet := T_StepSet) (z_any := z_any) (z_tuple := z_tuple) (g_DRY := g_DRY) (O_f_next_sky := O_f_next_sky) (m_f_next_sky := m_f_next_sky) (k_f_next_sky := k_f_next_sky) (b_f_next_sky := b_f_next_sky) (O_StepSet_contains := O_StepSet_contains) (b_StepSet_contains := b_StepSet_contains) (M_StepSet_contains := M_StepSet_contains) (O_StepSet_farthest := O_StepSet_farthest) (b_StepSet_farthest := b_StepSet_farthest) (P_StepSet_farthest := P_StepSet_farthest)
  have F_l_take := fun_mk (st := s_l_take) l_l_take e_l_take k_l_take
  have b_l_take := F_l_take.binds (ps := ["pool", "size"]) fun _ _ _ _ _ _ us hl => match us, hl with | [_, _], _ => rfl
  have m_l_take := PySem.W.mg_of X G a_l_take
  have O_l_take : FnOk l.prog w K mg base CX0 1 f_l_take _ ["pool", "size"] (spP K (adOf C_BadKind C_BadLacquer C_BadSteps C_Climate C_DampError C_Lacquer C_StepSet C_TooLarge) 2 G_l_take) := ok_l_take (ad := (adOf C_BadKind C_BadLacquer C_BadSteps C_Climate C_DampError C_Lacquer C_StepSet C_TooLarge)) F_l_take (z_int := z_int)
  have F_l_ab := fun_mk (st := s_l_ab) l_l_ab e_l_ab k_l_ab
  have b_l_ab := F_l_ab.binds (ps := ["pool", "most"]) fun _ _ _ _ _ _ us hl => match us, hl with | [_, _], _ => rfl
  have m_l_ab := PySem.W.mg_of X G a_l_ab
  have O_l_ab : FnOk l.prog w K mg base CX0 2 f_l_ab _ ["pool", "most"] (spP K (adOf C_BadKind C_BadLacquer C_BadSteps C_Climate C_DampError C_Lacquer C_StepSet C_TooLarge) 2 G_l_ab) := ok_l_ab (ad := (adOf C_BadKind C_BadLacquer C_BadSteps C_Climate C_DampError C_Lacquer C_StepSet C_TooLarge)) F_l_ab (O_l_take := O_l_take) (m_l_take := m_l_take) (k_l_take := k_l_take) (b_l_take := b_l_take)
  have F_l_cell := fun_mk (st := s_l_cell) l_l_cell e_l_cell k_l_cell
  have b_l_cell := F_l_cell.binds (ps := ["script", "k"]) fun _ _ _ _ _ _ us hl => match us, hl with | [_, _], _ => rfl
  have m_l_cell := PySem.W.mg_of X G a_l_cell
  have O_l_cell : FnOk l.prog w K mg base CX0 1 f_l_cell _ ["script", "k"] (spP K (adOf C_BadKind C_BadLacquer C_BadSteps C_Climate C_DampError C_Lacquer C_StepSet C_TooLarge) 2 G_l_cell) := ok_l_cell (ad := (adOf C_BadKind C_BadLacquer C_BadSteps C_Climate C_DampError C_Lacquer C_StepSet C_TooLarge)) F_l_cell (z_len := z_len)
  have F_StepSet_iter := fun_mk (st := s_StepSet_iter) l_StepSet_iter e_StepSet_iter k_StepSet_iter
  have b_StepSet_iter := F_StepSet_iter.binds (ps := ["self"]) fun _ _ _ _ _ _ us hl => match us, hl with | [_], _ => rfl
  have M_StepSet_iter : Meth K ((adOf C_BadKind C_BadLacquer C_BadSteps C_Climate C_DampError C_Lacquer C_StepSet C_TooLarge) .StepSet) "__iter__" f_StepSet_iter := ⟨a_StepSet_iter, j_StepSet_iter, k_StepSet_iter⟩
  have O_StepSet_iter : OW.FnS l.prog w K mg base 1 f_StepSet_iter _ ["self"] (spIt K ((adOf C_BadKind C_BadLacquer C_BadSteps C_Climate C_DampError C_Lacquer C_StepSet C_TooLarge) .StepSet) "steps") := ok_StepSet_iter (ad := (adOf C_BadKind C_BadLacquer C_BadSteps C_Climate C_DampError C_Lacquer C_StepSet C_TooLarge)) F_StepSet_iter (T_StepSet := T_StepSet) (z_iter := z_iter)
  have F_l_same := fun_mk (st := s_l_same) l_l_same e_l_same k_l_same
  have b_l_same := F_l_same.binds (ps := ["actual", "due"]) fun _ _ _ _ _ _ us hl => match us, hl with | [_, _], _ => rfl
  have m_l_same := PySem.W.mg_of X G a_l_same
  have O_l_same : FnOk l.prog w K mg base CX0 5 f_l_same _ ["actual", "due"] (spP K (adOf C_BadKind C_BadLacquer C_BadSteps C_Climate C_DampError C_Lacquer C_StepSet C_TooLarge) 2 G_l_same) := ok_l_same (ad := (adOf C_BadKind C_BadLacquer C_BadSteps C_Climate C_DampError C_Lacquer C_StepSet C_TooLarge)) F_l_same (z_bool := z_bool) (z_int := z_int) (z_isinstance := z_isinstance) (z_len := z_len) (z_list := z_list) (z_range := z_range) (z_str := z_str) (z_tuple := z_tuple) (kit_NoneType_bool := kit_NoneType_bool) (kit_NoneType_int := kit_NoneType_int) (kit_NoneType_list := kit_NoneType_list) (kit_NoneType_str := kit_NoneType_str) (kit_NoneType_tuple := kit_NoneType_tuple) (kit_bool_bool := kit_bool_bool) (kit_bool_int := kit_bool_int) (kit_bool_list := kit_bool_list) (kit_bool_str := kit_bool_str) (kit_bool_tuple := kit_bool_tuple) (kit_int_bool := kit_int_bool) (kit_int_int := kit_int_int) (kit_int_list := kit_int_list) (kit_int_str := kit_int_str) (kit_int_tuple := kit_int_tuple) (kit_list_bool := kit_list_bool) (kit_list_int := kit_list_int) (kit_list_list := kit_list_list) (kit_list_str := kit_list_str) (kit_list_tuple := kit_list_tuple) (kit_str_bool := kit_str_bool) (kit_str_int := kit_str_int) (kit_str_list := kit_str_list) (kit_str_str := kit_str_str) (kit_str_tuple := kit_str_tuple) (kit_tuple_bool := kit_tuple_bool) (kit_tuple_int := kit_tuple_int) (kit_tuple_list := kit_tuple_list) (kit_tuple_str := kit_tuple_str) (kit_tuple_tuple := kit_tuple_tuple) (m_l_same := m_l_same) (k_l_same := k_l_same) (b_l_same := b_l_same) 4
  have F_l_is := fun_mk (st := s_l_is) l_l_is e_l_is k_l_is
  have b_l_is := F_l_is.binds (ps := ["thing", "steps"]) fun _ _ _ _ _ _ us hl => match us, hl with | [_, _], _ => rfl
  have m_l_is := PySem.W.mg_of X G a_l_is
  have O_l_is : FnOk l.prog w K mg base CX0 6 f_l_is _ ["thing", "steps"] (spP K (adOf C_BadKind C_BadLacquer C_BadSteps C_Climate C_DampError C_Lacquer C_StepSet C_TooLarge) 2 G_l_is) := ok_l_is (ad := (adOf C_BadKind C_BadLacquer C_BadSteps C_Climate C_DampError C_Lacquer C_StepSet C_TooLarge)) F_l_is (T_StepSet := T_StepSet) (z_isinstance := z_isinstance) (z_list := z_list) (z_tuple := z_tuple) (kit_NoneType_StepSet := kit_NoneType_StepSet) (kit_StepSet_StepSet := kit_StepSet_StepSet) (O_l_same := O_l_same) (m_l_same := m_l_same) (k_l_same := k_l_same) (b_l_same := b_l_same) (O_StepSet_contains := O_StepSet_contains) (b_StepSet_contains := b_StepSet_contains) (M_StepSet_contains := M_StepSet_contains) (O_StepSet_farthest := O_StepSet_farthest) (b_StepSet_farthest := b_StepSet_farthest) (P_StepSet_farthest := P_StepSet_farthest) (O_StepSet_iter := O_StepSet_iter) (b_StepSet_iter := b_StepSet_iter) (M_StepSet_iter := M_StepSet_iter)
  have F_l_items := fun_mk (st := s_l_items) l_l_items e_l_items k_l_items
  have b_l_items := F_l_items.binds (ps := ["pool"]) fun _ _ _ _ _ _ us hl => match us, hl with | [_], _ => rfl
  have m_l_items := PySem.W.mg_of X G a_l_items
  have O_l_items : FnOk l.prog w K mg base CX0 2 f_l_items _ ["pool"] (spP K (adOf C_BadKind C_BadLacquer C_BadSteps C_Climate C_DampError C_Lacquer C_StepSet C_TooLarge) 1 G_l_items) := ok_l_items (ad := (adOf C_BadKind C_BadLacquer C_BadSteps C_Climate C_DampError C_Lacquer C_StepSet C_TooLarge)) F_l_items (z_len := z_len) (z_range := z_range) (O_l_take := O_l_take) (m_l_take := m_l_take) (k_l_take := k_l_take) (b_l_take := b_l_take)
  have F_l_kinds := fun_mk (st := s_l_kinds) l_l_kinds e_l_kinds k_l_kinds
  have b_l_kinds := F_l_kinds.binds (ps := ["pool", "most", "peak", "need"]) fun _ _ _ _ _ _ us hl => match us, hl with | [_, _, _, _], _ => rfl
  have m_l_kinds := PySem.W.mg_of X G a_l_kinds
  have O_l_kinds : FnOk l.prog w K mg base CX0 2 f_l_kinds _ ["pool", "most", "peak", "need"] (spP K (adOf C_BadKind C_BadLacquer C_BadSteps C_Climate C_DampError C_Lacquer C_StepSet C_TooLarge) 4 G_l_kinds) := ok_l_kinds (ad := (adOf C_BadKind C_BadLacquer C_BadSteps C_Climate C_DampError C_Lacquer C_StepSet C_TooLarge)) F_l_kinds (z_range := z_range) (O_l_take := O_l_take) (m_l_take := m_l_take) (k_l_take := k_l_take) (b_l_take := b_l_take)
  have F_l_made := fun_mk (st := s_l_made) l_l_made e_l_made k_l_made
  have b_l_made := F_l_made.binds (ps := ["items"]) fun _ _ _ _ _ _ us hl => match us, hl with | [_], _ => rfl
  have m_l_made := PySem.W.mg_of X G a_l_made
  have O_l_made : FnOk l.prog w K mg base CX0 3 f_l_made _ ["items"] (spP K (adOf C_BadKind C_BadLacquer C_BadSteps C_Climate C_DampError C_Lacquer C_StepSet C_TooLarge) 1 G_l_made) := ok_l_made (ad := (adOf C_BadKind C_BadLacquer C_BadSteps C_Climate C_DampError C_Lacquer C_StepSet C_TooLarge)) F_l_made (T_BadKind := T_BadKind) (T_BadLacquer := T_BadLacquer) (T_BadSteps := T_BadSteps) (T_DampError := T_DampError) (T_StepSet := T_StepSet) (T_TooLarge := T_TooLarge) (z_ValueError := z_ValueError) (z_isinstance := z_isinstance) (kit_BadSteps_DampError := kit_BadSteps_DampError) (kit_BadSteps_TooLarge := kit_BadSteps_TooLarge) (kit_BadSteps_ValueError := kit_BadSteps_ValueError) (xm_BadKind_BadSteps := xm_BadKind_BadSteps) (xm_BadLacquer_BadSteps := xm_BadLacquer_BadSteps) (xm_BadSteps_BadSteps := xm_BadSteps_BadSteps) (xm_DampError_BadSteps := xm_DampError_BadSteps) (xm_TooLarge_BadSteps := xm_TooLarge_BadSteps) (O_StepSet_init := O_StepSet_init) (b_StepSet_init := b_StepSet_init) (I_StepSet := I_StepSet)
  have F_l_least_run := fun_mk (st := s_l_least_run) l_l_least_run e_l_least_run k_l_least_run
  have b_l_least_run := F_l_least_run.binds (ps := ["kinds", "w"]) fun _ _ _ _ _ _ us hl => match us, hl with | [_, _], _ => rfl
  have m_l_least_run := PySem.W.mg_of X G a_l_least_run
  have O_l_least_run : FnOk l.prog w K mg base CX0 1 f_l_least_run _ ["kinds", "w"] (spP K (adOf C_BadKind C_BadLacquer C_BadSteps C_Climate C_DampError C_Lacquer C_StepSet C_TooLarge) 2 G_l_least_run) := ok_l_least_run (ad := (adOf C_BadKind C_BadLacquer C_BadSteps C_Climate C_DampError C_Lacquer C_StepSet C_TooLarge)) F_l_least_run 
  have F_l_plain := fun_mk (st := s_l_plain) l_l_plain e_l_plain k_l_plain
  have b_l_plain := F_l_plain.binds (ps := ["kinds"]) fun _ _ _ _ _ _ us hl => match us, hl with | [_], _ => rfl
  have m_l_plain := PySem.W.mg_of X G a_l_plain
  have O_l_plain : FnOk l.prog w K mg base CX0 2 f_l_plain _ ["kinds"] (spP K (adOf C_BadKind C_BadLacquer C_BadSteps C_Climate C_DampError C_Lacquer C_StepSet C_TooLarge) 1 G_l_plain) := ok_l_plain (ad := (adOf C_BadKind C_BadLacquer C_BadSteps C_Climate C_DampError C_Lacquer C_StepSet C_TooLarge)) F_l_plain (z_range := z_range) (O_l_least_run := O_l_least_run) (m_l_least_run := m_l_least_run) (k_l_least_run := k_l_least_run) (b_l_least_run := b_l_least_run)
  have F_l_need := fun_mk (st := s_l_need) l_l_need e_l_need k_l_need
  have b_l_need := F_l_need.binds (ps := ["kinds"]) fun _ _ _ _ _ _ us hl => match us, hl with | [_], _ => rfl
  have m_l_need := PySem.W.mg_of X G a_l_need
  have O_l_need : FnOk l.prog w K mg base CX0 3 f_l_need _ ["kinds"] (spP K (adOf C_BadKind C_BadLacquer C_BadSteps C_Climate C_DampError C_Lacquer C_StepSet C_TooLarge) 1 G_l_need) := ok_l_need (ad := (adOf C_BadKind C_BadLacquer C_BadSteps C_Climate C_DampError C_Lacquer C_StepSet C_TooLarge)) F_l_need (z_len := z_len) (O_l_plain := O_l_plain) (m_l_plain := m_l_plain) (k_l_plain := k_l_plain) (b_l_plain := b_l_plain)
  have F_l_ages := fun_mk (st := s_l_ages) l_l_ages e_l_ages k_l_ages
  have b_l_ages := F_l_ages.binds (ps := ["steps", "ages", "sign"]) fun _ _ _ _ _ _ us hl => match us, hl with | [_, _, _], _ => rfl
  have m_l_ages := PySem.W.mg_of X G a_l_ages
  have O_l_ages : FnOk l.prog w K mg base CX0 1 f_l_ages _ ["steps", "ages", "sign"] (spP K (adOf C_BadKind C_BadLacquer C_BadSteps C_Climate C_DampError C_Lacquer C_StepSet C_TooLarge) 3 G_l_ages) := ok_l_ages (ad := (adOf C_BadKind C_BadLacquer C_BadSteps C_Climate C_DampError C_Lacquer C_StepSet C_TooLarge)) F_l_ages (z_len := z_len) (z_tuple := z_tuple)
  have F_l_longest := fun_mk (st := s_l_longest) l_l_longest e_l_longest k_l_longest
  have b_l_longest := F_l_longest.binds (ps := ["kinds", "stretch"]) fun _ _ _ _ _ _ us hl => match us, hl with | [_, _], _ => rfl
  have m_l_longest := PySem.W.mg_of X G a_l_longest
  have O_l_longest : FnOk l.prog w K mg base CX0 1 f_l_longest _ ["kinds", "stretch"] (spP K (adOf C_BadKind C_BadLacquer C_BadSteps C_Climate C_DampError C_Lacquer C_StepSet C_TooLarge) 2 G_l_longest) := ok_l_longest (ad := (adOf C_BadKind C_BadLacquer C_BadSteps C_Climate C_DampError C_Lacquer C_StepSet C_TooLarge)) F_l_longest 
  have F_l_sky := fun_mk (st := s_l_sky) l_l_sky e_l_sky k_l_sky
  have b_l_sky := F_l_sky.binds (ps := ["kinds", "cap", "sky", "sign"]) fun _ _ _ _ _ _ us hl => match us, hl with | [_, _, _, _], _ => rfl
  have m_l_sky := PySem.W.mg_of X G a_l_sky
  have O_l_sky : FnOk l.prog w K mg base CX0 2 f_l_sky _ ["kinds", "cap", "sky", "sign"] (spP K (adOf C_BadKind C_BadLacquer C_BadSteps C_Climate C_DampError C_Lacquer C_StepSet C_TooLarge) 4 G_l_sky) := ok_l_sky (ad := (adOf C_BadKind C_BadLacquer C_BadSteps C_Climate C_DampError C_Lacquer C_StepSet C_TooLarge)) F_l_sky (z_min := z_min) (O_l_longest := O_l_longest) (m_l_longest := m_l_longest) (k_l_longest := k_l_longest) (b_l_longest := b_l_longest)
  have F_l_stand := fun_mk (st := s_l_stand) l_l_stand e_l_stand k_l_stand
  have b_l_stand := F_l_stand.binds (ps := ["steps", "kinds", "cap", "stand", "sign"]) fun _ _ _ _ _ _ us hl => match us, hl with | [_, _, _, _, _], _ => rfl
  have m_l_stand := PySem.W.mg_of X G a_l_stand
  have O_l_stand : FnOk l.prog w K mg base CX0 3 f_l_stand _ ["steps", "kinds", "cap", "stand", "sign"] (spP K (adOf C_BadKind C_BadLacquer C_BadSteps C_Climate C_DampError C_Lacquer C_StepSet C_TooLarge) 5 G_l_stand) := ok_l_stand (ad := (adOf C_BadKind C_BadLacquer C_BadSteps C_Climate C_DampError C_Lacquer C_StepSet C_TooLarge)) F_l_stand (O_l_ages := O_l_ages) (m_l_ages := m_l_ages) (k_l_ages := k_l_ages) (b_l_ages := b_l_ages) (O_l_sky := O_l_sky) (m_l_sky := m_l_sky) (k_l_sky := k_l_sky) (b_l_sky := b_l_sky)
  have F_l_odd_right := fun_mk (st := s_l_odd_right) l_l_odd_right e_l_odd_right k_l_odd_right
  have b_l_odd_right := F_l_odd_right.binds (ps := ["one", "steps", "kinds", "climate", "cap", "stand"]) fun _ _ _ _ _ _ us hl => match us, hl with | [_, _, _, _, _, _], _ => rfl
  have m_l_odd_right := PySem.W.mg_of X G a_l_odd_right
  have O_l_odd_right : FnOk l.prog w K mg base CX0 6 f_l_odd_right _ ["one", "steps", "kinds", "climate", "cap", "stand"] (spP K (adOf C_BadKind C_BadLacquer C_BadSteps C_Climate C_DampError C_Lacquer C_StepSet C_TooLarge) 6 G_l_odd_right) := ok_l_odd_right (ad := (adOf C_BadKind C_BadLacquer C_BadSteps C_Climate C_DampError C_Lacquer C_StepSet C_TooLarge)) F_l_odd_right (O_f_next_stand := O_f_next_stand) (m_f_next_stand := m_f_next_stand) (k_f_next_stand := k_f_next_stand) (b_f_next_stand := b_f_next_stand) (O_l_same := O_l_same) (m_l_same := m_l_same) (k_l_same := k_l_same) (b_l_same := b_l_same) (O_l_stand := O_l_stand) (m_l_stand := m_l_stand) (k_l_stand := k_l_stand) (b_l_stand := b_l_stand)
  have F_Lacquer_init := fun_mk (st := s_Lacquer_init) l_Lacquer_init e_Lacquer_init k_Lacquer_init
  have b_Lacquer_init := F_Lacquer_init.binds (ps := ["self", "a", "b"]) fun _ _ _ _ _ _ us hl => match us, hl with | [_, _, _], _ => rfl
  have I_Lacquer : Mk K ((adOf C_BadKind C_BadLacquer C_BadSteps C_Climate C_DampError C_Lacquer C_StepSet C_TooLarge) .Lacquer) f_Lacquer_init := ⟨c_Lacquer_mkk, a_Lacquer_init, j_Lacquer_init, c_Lacquer_kp⟩
  have O_Lacquer_init : FnOk l.prog w K mg base (L2.CX l.prog w) 1 f_Lacquer_init _ ["self", "a", "b"] (spP K (adOf C_BadKind C_BadLacquer C_BadSteps C_Climate C_DampError C_Lacquer C_StepSet C_TooLarge) 3 G_Lacquer_init) := ok_Lacquer_init (ad := (adOf C_BadKind C_BadLacquer C_BadSteps C_Climate C_DampError C_Lacquer C_StepSet C_TooLarge)) F_Lacquer_init (T_BadLacquer := T_BadLacquer) (T_Lacquer := T_Lacquer)
  have F_StepSet_of := fun_mk (st := s_StepSet_of) l_StepSet_of e_StepSet_of k_StepSet_of
  have b_StepSet_of := F_StepSet_of.binds (ps := ["lacquer"]) fun _ _ _ _ _ _ us hl => match us, hl with | [_], _ => rfl
  have SM_StepSet_of : SMet K ((adOf C_BadKind C_BadLacquer C_BadSteps C_Climate C_DampError C_Lacquer C_StepSet C_TooLarge) .StepSet) (.type "type") "of" p_StepSet_of f_StepSet_of := ⟨a_StepSet_of, ⟨rest_StepSet_of, pr_StepSet_of⟩⟩
  have O_StepSet_of : FnOk l.prog w K mg base (L2.CX l.prog w) 3 f_StepSet_of _ ["lacquer"] (spP K (adOf C_BadKind C_BadLacquer C_BadSteps C_Climate C_DampError C_Lacquer C_StepSet C_TooLarge) 1 G_StepSet_of) := ok_StepSet_of (ad := (adOf C_BadKind C_BadLacquer C_BadSteps C_Climate C_DampError C_Lacquer C_StepSet C_TooLarge)) F_StepSet_of (T_Lacquer := T_Lacquer) (T_StepSet := T_StepSet) (T_TooLarge := T_TooLarge) (z_list := z_list) (z_range := z_range) (g_MOST_STEP := g_MOST_STEP) (O_StepSet_init := O_StepSet_init) (b_StepSet_init := b_StepSet_init) (I_StepSet := I_StepSet)
  have F_l_of := fun_mk (st := s_l_of) l_l_of e_l_of k_l_of
  have b_l_of := F_l_of.binds (ps := ["ab"]) fun _ _ _ _ _ _ us hl => match us, hl with | [_], _ => rfl
  have m_l_of := PySem.W.mg_of X G a_l_of
  have O_l_of : FnOk l.prog w K mg base CX0 7 f_l_of _ ["ab"] (spP K (adOf C_BadKind C_BadLacquer C_BadSteps C_Climate C_DampError C_Lacquer C_StepSet C_TooLarge) 1 G_l_of) := ok_l_of (ad := (adOf C_BadKind C_BadLacquer C_BadSteps C_Climate C_DampError C_Lacquer C_StepSet C_TooLarge)) F_l_of (T_BadKind := T_BadKind) (T_BadLacquer := T_BadLacquer) (T_BadSteps := T_BadSteps) (T_DampError := T_DampError) (T_Lacquer := T_Lacquer) (T_StepSet := T_StepSet) (T_TooLarge := T_TooLarge) (z_ValueError := z_ValueError) (z_isinstance := z_isinstance) (z_range := z_range) (kit_TooLarge_BadSteps := kit_TooLarge_BadSteps) (kit_TooLarge_DampError := kit_TooLarge_DampError) (kit_TooLarge_ValueError := kit_TooLarge_ValueError) (xm_BadKind_TooLarge := xm_BadKind_TooLarge) (xm_BadLacquer_TooLarge := xm_BadLacquer_TooLarge) (xm_BadSteps_TooLarge := xm_BadSteps_TooLarge) (xm_DampError_TooLarge := xm_DampError_TooLarge) (xm_TooLarge_TooLarge := xm_TooLarge_TooLarge) (O_l_is := O_l_is) (m_l_is := m_l_is) (k_l_is := k_l_is) (b_l_is := b_l_is) (O_Lacquer_init := O_Lacquer_init) (b_Lacquer_init := b_Lacquer_init) (I_Lacquer := I_Lacquer) (O_StepSet_of := O_StepSet_of) (b_StepSet_of := b_StepSet_of) (SM_StepSet_of := SM_StepSet_of) (k_StepSet_of := k_StepSet_of)
  have F_l_pool := fun_mk (st := s_l_pool) l_l_pool e_l_pool k_l_pool
  have b_l_pool := F_l_pool.binds (ps := ["cell"]) fun _ _ _ _ _ _ us hl => match us, hl with | [_], _ => rfl
  have m_l_pool := PySem.W.mg_of X G a_l_pool
  have O_l_pool : FnOk l.prog w K mg base CX0 1 f_l_pool _ ["cell"] (spP K (adOf C_BadKind C_BadLacquer C_BadSteps C_Climate C_DampError C_Lacquer C_StepSet C_TooLarge) 1 G_l_pool) := ok_l_pool (ad := (adOf C_BadKind C_BadLacquer C_BadSteps C_Climate C_DampError C_Lacquer C_StepSet C_TooLarge)) F_l_pool (z_int := z_int)
  have F_l_signs_of := fun_mk (st := s_l_signs_of) l_l_signs_of e_l_signs_of k_l_signs_of
  have b_l_signs_of := F_l_signs_of.binds (ps := ["pool", "kinds", "hours"]) fun _ _ _ _ _ _ us hl => match us, hl with | [_, _, _], _ => rfl
  have m_l_signs_of := PySem.W.mg_of X G a_l_signs_of
  have O_l_signs_of : FnOk l.prog w K mg base CX0 2 f_l_signs_of _ ["pool", "kinds", "hours"] (spP K (adOf C_BadKind C_BadLacquer C_BadSteps C_Climate C_DampError C_Lacquer C_StepSet C_TooLarge) 3 G_l_signs_of) := ok_l_signs_of (ad := (adOf C_BadKind C_BadLacquer C_BadSteps C_Climate C_DampError C_Lacquer C_StepSet C_TooLarge)) F_l_signs_of (z_range := z_range) (O_l_longest := O_l_longest) (m_l_longest := m_l_longest) (k_l_longest := k_l_longest) (b_l_longest := b_l_longest) (O_l_take := O_l_take) (m_l_take := m_l_take) (k_l_take := k_l_take) (b_l_take := b_l_take)
  have F_l_some_stand := fun_mk (st := s_l_some_stand) l_l_some_stand e_l_some_stand k_l_some_stand
  have b_l_some_stand := F_l_some_stand.binds (ps := ["pool", "kinds", "cap", "farthest"]) fun _ _ _ _ _ _ us hl => match us, hl with | [_, _, _, _], _ => rfl
  have m_l_some_stand := PySem.W.mg_of X G a_l_some_stand
  have O_l_some_stand : FnOk l.prog w K mg base CX0 2 f_l_some_stand _ ["pool", "kinds", "cap", "farthest"] (spP K (adOf C_BadKind C_BadLacquer C_BadSteps C_Climate C_DampError C_Lacquer C_StepSet C_TooLarge) 4 G_l_some_stand) := ok_l_some_stand (ad := (adOf C_BadKind C_BadLacquer C_BadSteps C_Climate C_DampError C_Lacquer C_StepSet C_TooLarge)) F_l_some_stand (z_len := z_len) (z_max := z_max) (z_range := z_range) (z_tuple := z_tuple) (O_l_take := O_l_take) (m_l_take := m_l_take) (k_l_take := k_l_take) (b_l_take := b_l_take)
  have F_l_law := fun_mk (st := s_l_law) l_l_law e_l_law k_l_law
  have O_l_law : FnOk l.prog w K mg base CX0 8 fa _ ["script"] (spP K (adOf C_BadKind C_BadLacquer C_BadSteps C_Climate C_DampError C_Lacquer C_StepSet C_TooLarge) 1 G_l_law) := ok_l_law (ad := (adOf C_BadKind C_BadLacquer C_BadSteps C_Climate C_DampError C_Lacquer C_StepSet C_TooLarge)) F_l_law (T_Climate := T_Climate) (T_StepSet := T_StepSet) (z_len := z_len) (z_list := z_list) (z_max := z_max) (z_range := z_range) (O_f_first_stand := O_f_first_stand) (m_f_first_stand := m_f_first_stand) (k_f_first_stand := k_f_first_stand) (b_f_first_stand := b_f_first_stand) (O_f_next_stand := O_f_next_stand) (m_f_next_stand := m_f_next_stand) (k_f_next_stand := k_f_next_stand) (b_f_next_stand := b_f_next_stand) (O_l_ab := O_l_ab) (m_l_ab := m_l_ab) (k_l_ab := k_l_ab) (b_l_ab := b_l_ab) (O_l_cell := O_l_cell) (m_l_cell := m_l_cell) (k_l_cell := k_l_cell) (b_l_cell := b_l_cell) (O_l_is := O_l_is) (m_l_is := m_l_is) (k_l_is := k_l_is) (b_l_is := b_l_is) (O_l_items := O_l_items) (m_l_items := m_l_items) (k_l_items := k_l_items) (b_l_items := b_l_items) (O_l_kinds := O_l_kinds) (m_l_kinds := m_l_kinds) (k_l_kinds := k_l_kinds) (b_l_kinds := b_l_kinds) (O_l_made := O_l_made) (m_l_made := m_l_made) (k_l_made := k_l_made) (b_l_made := b_l_made) (O_l_need := O_l_need) (m_l_need := m_l_need) (k_l_need := k_l_need) (b_l_need := b_l_need) (O_l_odd_right := O_l_odd_right) (m_l_odd_right := m_l_odd_right) (k_l_odd_right := k_l_odd_right) (b_l_odd_right := b_l_odd_right) (O_l_of := O_l_of) (m_l_of := m_l_of) (k_l_of := k_l_of) (b_l_of := b_l_of) (O_l_pool := O_l_pool) (m_l_pool := m_l_pool) (k_l_pool := k_l_pool) (b_l_pool := b_l_pool) (O_l_same := O_l_same) (m_l_same := m_l_same) (k_l_same := k_l_same) (b_l_same := b_l_same) (O_l_signs_of := O_l_signs_of) (m_l_signs_of := m_l_signs_of) (k_l_signs_of := k_l_signs_of) (b_l_signs_of := b_l_signs_of) (O_l_some_stand := O_l_some_stand) (m_l_some_stand := m_l_some_stand) (k_l_some_stand := k_l_some_stand) (b_l_some_stand := b_l_some_stand) (O_l_stand := O_l_stand) (m_l_stand := m_l_stand) (k_l_stand := k_l_stand) (b_l_stand := b_l_stand) (O_l_take := O_l_take) (m_l_take := m_l_take) (k_l_take := k_l_take) (b_l_take := b_l_take) (O_Climate_init := O_Climate_init) (b_Climate_init := b_Climate_init) (I_Climate := I_Climate) (O_StepSet_eq := O_StepSet_eq) (b_StepSet_eq := b_StepSet_eq) (M_StepSet_eq := M_StepSet_eq) (O_StepSet_init := O_StepSet_init) (b_StepSet_init := b_StepSet_init) (I_StepSet := I_StepSet) (O_StepSet_or := O_StepSet_or) (b_StepSet_or := b_StepSet_or) (M_StepSet_or := M_StepSet_or)
  exact O_l_law.imp (spLaw_of law_pure)
end DP
open PySem PySem.W PyProof.Rows
set_option maxHeartbeats 0 in
theorem PySem.Challenge.cw_dampspells_k40_step_sets_and_stands_holds : PySem.Challenge.rw_dampspells_k40_step_sets_and_stands.Holds := by
  w_on; o_law; k_head; (case hw => w_witness2)
  k_fill
  refine L2.walk_of (l := PySem.Challenge.rw_dampspells_k40_step_sets_and_stands) (n := 63) (k := 8) (x := "script") (CX := fun _ => L2.CX0) (sp := fun w => PL.spLaw _) rfl (by decide) rfl ⟨rfl, by decide, by decide⟩ (fun w h Y => PySem.W.kIn_of Y) ?F (fun _ _ a ns hl _ hS => ⟨a, ns, rfl, hS, hl, fun _ => rfl⟩) (fun _ _ _ _ _ h => h)
  case F =>
    intro w mg fa h KX G hmg
    refine' DP.all_mk KX G hmg ?a_BadKind ?c_BadKind_x ?c_BadKind_kp ?c_BadKind_b ?c_BadKind_t ?c_BadKind_i ?c_BadKind_s ?c_BadKind_hg ?c_BadKind_hk ?c_BadKind_hd ?c_BadKind_ha ?c_BadKind_hn ?c_BadKind_ht ?c_BadKind_hm ?a_BadLacquer ?c_BadLacquer_x ?c_BadLacquer_kp ?c_BadLacquer_b ?c_BadLacquer_t ?c_BadLacquer_i ?c_BadLacquer_s ?c_BadLacquer_hg ?c_BadLacquer_hk ?c_BadLacquer_hd ?c_BadLacquer_ha ?c_BadLacquer_hn ?c_BadLacquer_ht ?c_BadLacquer_hm ?a_BadSteps ?c_BadSteps_x ?c_BadSteps_kp ?c_BadSteps_b ?c_BadSteps_t ?c_BadSteps_i ?c_BadSteps_s ?c_BadSteps_hg ?c_BadSteps_hk ?c_BadSteps_hd ?c_BadSteps_ha ?c_BadSteps_hn ?c_BadSteps_ht ?c_BadSteps_hm ?a_Climate ?c_Climate_pg ?c_Climate_hd ?c_Climate_po ?c_Climate_sa ?c_Climate_sf ?c_Climate_nf ?c_Climate_ha ?c_Climate_hn ?c_Climate_ht ?c_Climate_hm ?c_Climate_kp ?c_Climate_mkk ?c_Climate_n_kinds ?a_DampError ?c_DampError_x ?c_DampError_kp ?c_DampError_b ?c_DampError_t ?c_DampError_i ?c_DampError_s ?c_DampError_hg ?c_DampError_hk ?c_DampError_hd ?c_DampError_ha ?c_DampError_hn ?c_DampError_ht ?c_DampError_hm ?a_Lacquer ?c_Lacquer_pg ?c_Lacquer_hd ?c_Lacquer_po ?c_Lacquer_sa ?c_Lacquer_sf ?c_Lacquer_nf ?c_Lacquer_ha ?c_Lacquer_hn ?c_Lacquer_ht ?c_Lacquer_hm ?c_Lacquer_kp ?c_Lacquer_mkk ?c_Lacquer_v_MOST ?c_Lacquer_rd ?c_Lacquer_ga ?c_Lacquer_n_a ?c_Lacquer_n_b ?a_StepSet ?c_StepSet_pg ?c_StepSet_hd ?c_StepSet_po ?c_StepSet_sa ?c_StepSet_sf ?c_StepSet_nf ?c_StepSet_ha ?c_StepSet_hn ?c_StepSet_ht ?c_StepSet_hm ?c_StepSet_kp ?c_StepSet_mkk ?c_StepSet_rd ?c_StepSet_ga ?c_StepSet_n___len__ ?c_StepSet_n___length_hint__ ?c_StepSet_n_steps ?a_TooLarge ?c_TooLarge_x ?c_TooLarge_kp ?c_TooLarge_b ?c_TooLarge_t ?c_TooLarge_i ?c_TooLarge_s ?c_TooLarge_hg ?c_TooLarge_hk ?c_TooLarge_hd ?c_TooLarge_ha ?c_TooLarge_hn ?c_TooLarge_ht ?c_TooLarge_hm ?kit_BadSteps_DampError ?kit_BadSteps_TooLarge ?kit_BadSteps_ValueError ?kit_NoneType_StepSet ?kit_NoneType_bool ?kit_NoneType_int ?kit_NoneType_list ?kit_NoneType_str ?kit_NoneType_tuple ?kit_StepSet_StepSet ?kit_TooLarge_BadSteps ?kit_TooLarge_DampError ?kit_TooLarge_ValueError ?kit_bool_bool ?kit_bool_int ?kit_bool_list ?kit_bool_str ?kit_bool_tuple ?kit_int_bool ?kit_int_int ?kit_int_list ?kit_int_str ?kit_int_tuple ?kit_list_bool ?kit_list_int ?kit_list_list ?kit_list_str ?kit_list_tuple ?kit_str_bool ?kit_str_int ?kit_str_list ?kit_str_str ?kit_str_tuple ?kit_tuple_bool ?kit_tuple_int ?kit_tuple_list ?kit_tuple_str ?kit_tuple_tuple ?xm_BadKind_BadSteps ?xm_BadKind_TooLarge ?xm_BadLacquer_BadSteps ?xm_BadLacquer_TooLarge ?xm_BadSteps_BadSteps ?xm_BadSteps_TooLarge ?xm_DampError_BadSteps ?xm_DampError_TooLarge ?xm_TooLarge_BadSteps ?xm_TooLarge_TooLarge ?y_ValueError ?y_any ?y_bool ?y_int ?y_isinstance ?y_iter ?y_len ?y_list ?y_max ?y_min ?y_range ?y_set ?y_sorted ?y_str ?y_tuple ?y_DAMP_WORD ?y_DRY ?y_DRY_WORD ?y_FIRST_SKY ?yl_FIRST_SKY ?y_MOST_KINDS ?y_MOST_RUN ?y_MOST_SPELL ?y_MOST_STEP ?a_f_check_kind ?l_f_check_kind ?e_f_check_kind ?k_f_check_kind ?a_f_check_kinds ?l_f_check_kinds ?e_f_check_kinds ?k_f_check_kinds ?a_f_plain_list ?l_f_plain_list ?e_f_plain_list ?k_f_plain_list ?a_Climate_init ?j_Climate_init ?l_Climate_init ?e_Climate_init ?k_Climate_init ?a_StepSet_eq ?j_StepSet_eq ?l_StepSet_eq ?e_StepSet_eq ?k_StepSet_eq ?a_StepSet_init ?j_StepSet_init ?l_StepSet_init ?e_StepSet_init ?k_StepSet_init ?a_StepSet_or ?j_StepSet_or ?l_StepSet_or ?e_StepSet_or ?k_StepSet_or ?a_f_first_stand ?l_f_first_stand ?e_f_first_stand ?k_f_first_stand ?a_StepSet_contains ?j_StepSet_contains ?l_StepSet_contains ?e_StepSet_contains ?k_StepSet_contains ?a_StepSet_farthest ?pg_StepSet_farthest ?pt_StepSet_farthest ?pr_StepSet_farthest ?l_StepSet_farthest ?e_StepSet_farthest ?k_StepSet_farthest ?a_Climate_longest ?j_Climate_longest ?l_Climate_longest ?e_Climate_longest ?k_Climate_longest ?a_Climate_need ?pg_Climate_need ?pt_Climate_need ?pr_Climate_need ?l_Climate_need ?e_Climate_need ?k_Climate_need ?a_f_next_sky ?l_f_next_sky ?e_f_next_sky ?k_f_next_sky ?a_f_next_stand ?l_f_next_stand ?e_f_next_stand ?k_f_next_stand ?a_l_take ?l_l_take ?e_l_take ?k_l_take ?a_l_ab ?l_l_ab ?e_l_ab ?k_l_ab ?a_l_cell ?l_l_cell ?e_l_cell ?k_l_cell ?a_StepSet_iter ?j_StepSet_iter ?l_StepSet_iter ?e_StepSet_iter ?k_StepSet_iter ?a_l_same ?l_l_same ?e_l_same ?k_l_same ?a_l_is ?l_l_is ?e_l_is ?k_l_is ?a_l_items ?l_l_items ?e_l_items ?k_l_items ?a_l_kinds ?l_l_kinds ?e_l_kinds ?k_l_kinds ?a_l_made ?l_l_made ?e_l_made ?k_l_made ?a_l_least_run ?l_l_least_run ?e_l_least_run ?k_l_least_run ?a_l_plain ?l_l_plain ?e_l_plain ?k_l_plain ?a_l_need ?l_l_need ?e_l_need ?k_l_need ?a_l_ages ?l_l_ages ?e_l_ages ?k_l_ages ?a_l_longest ?l_l_longest ?e_l_longest ?k_l_longest ?a_l_sky ?l_l_sky ?e_l_sky ?k_l_sky ?a_l_stand ?l_l_stand ?e_l_stand ?k_l_stand ?a_l_odd_right ?l_l_odd_right ?e_l_odd_right ?k_l_odd_right ?a_Lacquer_init ?j_Lacquer_init ?l_Lacquer_init ?e_Lacquer_init ?k_Lacquer_init ?a_StepSet_of ?pr_StepSet_of ?l_StepSet_of ?e_StepSet_of ?k_StepSet_of ?a_l_of ?l_l_of ?e_l_of ?k_l_of ?a_l_pool ?l_l_pool ?e_l_pool ?k_l_pool ?a_l_signs_of ?l_l_signs_of ?e_l_signs_of ?k_l_signs_of ?a_l_some_stand ?l_l_some_stand ?e_l_some_stand ?k_l_some_stand ?a_l_law ?l_l_law ?e_l_law ?k_l_law
    (case a_BadKind => k_is)
    (case c_BadKind_x => k_exc)
    (case c_BadKind_kp => k_is)
    (case c_BadKind_b => k_is)
    (case c_BadKind_t => k_is)
    (case c_BadKind_i => k_is)
    (case c_BadKind_s => k_is)
    (case c_BadKind_hg => k_is)
    (case c_BadKind_hk => k_is)
    (case c_BadKind_hd => k_is)
    (case c_BadKind_ha => k_is)
    (case c_BadKind_hn => k_is)
    (case c_BadKind_ht => k_is)
    (case c_BadKind_hm => k_is)
    (case a_BadLacquer => k_is)
    (case c_BadLacquer_x => k_exc)
    (case c_BadLacquer_kp => k_is)
    (case c_BadLacquer_b => k_is)
    (case c_BadLacquer_t => k_is)
    (case c_BadLacquer_i => k_is)
    (case c_BadLacquer_s => k_is)
    (case c_BadLacquer_hg => k_is)
    (case c_BadLacquer_hk => k_is)
    (case c_BadLacquer_hd => k_is)
    (case c_BadLacquer_ha => k_is)
    (case c_BadLacquer_hn => k_is)
    (case c_BadLacquer_ht => k_is)
    (case c_BadLacquer_hm => k_is)
    (case a_BadSteps => k_is)
    (case c_BadSteps_x => k_exc)
    (case c_BadSteps_kp => k_is)
    (case c_BadSteps_b => k_is)
    (case c_BadSteps_t => k_is)
    (case c_BadSteps_i => k_is)
    (case c_BadSteps_s => k_is)
    (case c_BadSteps_hg => k_is)
    (case c_BadSteps_hk => k_is)
    (case c_BadSteps_hd => k_is)
    (case c_BadSteps_ha => k_is)
    (case c_BadSteps_hn => k_is)
    (case c_BadSteps_ht => k_is)
    (case c_BadSteps_hm => k_is)
    (case a_Climate => k_is)
    (case c_Climate_pg => k_is)
    (case c_Climate_hd => k_is)
    (case c_Climate_po => k_is)
    (case c_Climate_sa => k_is)
    (case c_Climate_sf => k_is)
    (case c_Climate_nf => k_is)
    (case c_Climate_ha => k_is)
    (case c_Climate_hn => k_is)
    (case c_Climate_ht => k_is)
    (case c_Climate_hm => k_is)
    (case c_Climate_kp => k_is)
    (case c_Climate_mkk => k_is)
    (case c_Climate_n_kinds => k_is)
    (case a_DampError => k_is)
    (case c_DampError_x => k_exc)
    (case c_DampError_kp => k_is)
    (case c_DampError_b => k_is)
    (case c_DampError_t => k_is)
    (case c_DampError_i => k_is)
    (case c_DampError_s => k_is)
    (case c_DampError_hg => k_is)
    (case c_DampError_hk => k_is)
    (case c_DampError_hd => k_is)
    (case c_DampError_ha => k_is)
    (case c_DampError_hn => k_is)
    (case c_DampError_ht => k_is)
    (case c_DampError_hm => k_is)
    (case a_Lacquer => k_is)
    (case c_Lacquer_pg => k_is)
    (case c_Lacquer_hd => k_is)
    (case c_Lacquer_po => k_is)
    (case c_Lacquer_sa => k_is)
    (case c_Lacquer_sf => k_is)
    (case c_Lacquer_nf => k_is)
    (case c_Lacquer_ha => k_is)
    (case c_Lacquer_hn => k_is)
    (case c_Lacquer_ht => k_is)
    (case c_Lacquer_hm => k_is)
    (case c_Lacquer_kp => k_is)
    (case c_Lacquer_mkk => k_is)
    (case c_Lacquer_v_MOST => k_is)
    (case c_Lacquer_rd => k_is)
    (case c_Lacquer_ga => k_is)
    (case c_Lacquer_n_a => k_is)
    (case c_Lacquer_n_b => k_is)
    (case a_StepSet => k_is)
    (case c_StepSet_pg => k_is)
    (case c_StepSet_hd => k_is)
    (case c_StepSet_po => k_is)
    (case c_StepSet_sa => k_is)
    (case c_StepSet_sf => k_is)
    (case c_StepSet_nf => k_is)
    (case c_StepSet_ha => k_is)
    (case c_StepSet_hn => k_is)
    (case c_StepSet_ht => k_is)
    (case c_StepSet_hm => k_is)
    (case c_StepSet_kp => k_is)
    (case c_StepSet_mkk => k_is)
    (case c_StepSet_rd => k_is)
    (case c_StepSet_ga => k_is)
    (case c_StepSet_n___len__ => k_is)
    (case c_StepSet_n___length_hint__ => k_is)
    (case c_StepSet_n_steps => k_is)
    (case a_TooLarge => k_is)
    (case c_TooLarge_x => k_exc)
    (case c_TooLarge_kp => k_is)
    (case c_TooLarge_b => k_is)
    (case c_TooLarge_t => k_is)
    (case c_TooLarge_i => k_is)
    (case c_TooLarge_s => k_is)
    (case c_TooLarge_hg => k_is)
    (case c_TooLarge_hk => k_is)
    (case c_TooLarge_hd => k_is)
    (case c_TooLarge_ha => k_is)
    (case c_TooLarge_hn => k_is)
    (case c_TooLarge_ht => k_is)
    (case c_TooLarge_hm => k_is)
    (case kit_BadSteps_DampError => first | k_is | decide +kernel | rfl)
    (case kit_BadSteps_TooLarge => first | k_is | decide +kernel | rfl)
    (case kit_BadSteps_ValueError => first | k_is | decide +kernel | rfl)
    (case kit_NoneType_StepSet => first | k_is | decide +kernel | rfl)
    (case kit_NoneType_bool => first | k_is | decide +kernel | rfl)
    (case kit_NoneType_int => first | k_is | decide +kernel | rfl)
    (case kit_NoneType_list => first | k_is | decide +kernel | rfl)
    (case kit_NoneType_str => first | k_is | decide +kernel | rfl)
    (case kit_NoneType_tuple => first | k_is | decide +kernel | rfl)
    (case kit_StepSet_StepSet => first | k_is | decide +kernel | rfl)
    (case kit_TooLarge_BadSteps => first | k_is | decide +kernel | rfl)
    (case kit_TooLarge_DampError => first | k_is | decide +kernel | rfl)
    (case kit_TooLarge_ValueError => first | k_is | decide +kernel | rfl)
    (case kit_bool_bool => first | k_is | decide +kernel | rfl)
    (case kit_bool_int => first | k_is | decide +kernel | rfl)
    (case kit_bool_list => first | k_is | decide +kernel | rfl)
    (case kit_bool_str => first | k_is | decide +kernel | rfl)
    (case kit_bool_tuple => first | k_is | decide +kernel | rfl)
    (case kit_int_bool => first | k_is | decide +kernel | rfl)
    (case kit_int_int => first | k_is | decide +kernel | rfl)
    (case kit_int_list => first | k_is | decide +kernel | rfl)
    (case kit_int_str => first | k_is | decide +kernel | rfl)
    (case kit_int_tuple => first | k_is | decide +kernel | rfl)
    (case kit_list_bool => first | k_is | decide +kernel | rfl)
    (case kit_list_int => first | k_is | decide +kernel | rfl)
    (case kit_list_list => first | k_is | decide +kernel | rfl)
    (case kit_list_str => first | k_is | decide +kernel | rfl)
    (case kit_list_tuple => first | k_is | decide +kernel | rfl)
    (case kit_str_bool => first | k_is | decide +kernel | rfl)
    (case kit_str_int => first | k_is | decide +kernel | rfl)
    (case kit_str_list => first | k_is | decide +kernel | rfl)
    (case kit_str_str => first | k_is | decide +kernel | rfl)
    (case kit_str_tuple => first | k_is | decide +kernel | rfl)
    (case kit_tuple_bool => first | k_is | decide +kernel | rfl)
    (case kit_tuple_int => first | k_is | decide +kernel | rfl)
    (case kit_tuple_list => first | k_is | decide +kernel | rfl)
    (case kit_tuple_str => first | k_is | decide +kernel | rfl)
    (case kit_tuple_tuple => first | k_is | decide +kernel | rfl)
    (case xm_BadKind_BadSteps => first | k_is | decide +kernel | rfl)
    (case xm_BadKind_TooLarge => first | k_is | decide +kernel | rfl)
    (case xm_BadLacquer_BadSteps => first | k_is | decide +kernel | rfl)
    (case xm_BadLacquer_TooLarge => first | k_is | decide +kernel | rfl)
    (case xm_BadSteps_BadSteps => first | k_is | decide +kernel | rfl)
    (case xm_BadSteps_TooLarge => first | k_is | decide +kernel | rfl)
    (case xm_DampError_BadSteps => first | k_is | decide +kernel | rfl)
    (case xm_DampError_TooLarge => first | k_is | decide +kernel | rfl)
    (case xm_TooLarge_BadSteps => first | k_is | decide +kernel | rfl)
    (case xm_TooLarge_TooLarge => first | k_is | decide +kernel | rfl)
    (case y_ValueError => k_is)
    (case y_any => k_is)
    (case y_bool => k_is)
    (case y_int => k_is)
    (case y_isinstance => k_is)
    (case y_iter => k_is)
    (case y_len => k_is)
    (case y_list => k_is)
    (case y_max => k_is)
    (case y_min => k_is)
    (case y_range => k_is)
    (case y_set => k_is)
    (case y_sorted => k_is)
    (case y_str => k_is)
    (case y_tuple => k_is)
    (case y_DAMP_WORD => k_is)
    (case y_DRY => k_is)
    (case y_DRY_WORD => k_is)
    (case y_FIRST_SKY => k_is)
    (case yl_FIRST_SKY => k_is)
    (case y_MOST_KINDS => k_is)
    (case y_MOST_RUN => k_is)
    (case y_MOST_SPELL => k_is)
    (case y_MOST_STEP => k_is)
    (case a_f_check_kind => k_is)
    (case l_f_check_kind => k_is)
    (case e_f_check_kind => k_is)
    (case k_f_check_kind => k_is)
    (case a_f_check_kinds => k_is)
    (case l_f_check_kinds => k_is)
    (case e_f_check_kinds => k_is)
    (case k_f_check_kinds => k_is)
    (case a_f_plain_list => k_is)
    (case l_f_plain_list => k_is)
    (case e_f_plain_list => k_is)
    (case k_f_plain_list => k_is)
    (case a_Climate_init => k_is)
    (case j_Climate_init => k_is)
    (case l_Climate_init => k_is)
    (case e_Climate_init => k_is)
    (case k_Climate_init => k_is)
    (case a_StepSet_eq => k_is)
    (case j_StepSet_eq => k_is)
    (case l_StepSet_eq => k_is)
    (case e_StepSet_eq => k_is)
    (case k_StepSet_eq => k_is)
    (case a_StepSet_init => k_is)
    (case j_StepSet_init => k_is)
    (case l_StepSet_init => k_is)
    (case e_StepSet_init => k_is)
    (case k_StepSet_init => k_is)
    (case a_StepSet_or => k_is)
    (case j_StepSet_or => k_is)
    (case l_StepSet_or => k_is)
    (case e_StepSet_or => k_is)
    (case k_StepSet_or => k_is)
    (case a_f_first_stand => k_is)
    (case l_f_first_stand => k_is)
    (case e_f_first_stand => k_is)
    (case k_f_first_stand => k_is)
    (case a_StepSet_contains => k_is)
    (case j_StepSet_contains => k_is)
    (case l_StepSet_contains => k_is)
    (case e_StepSet_contains => k_is)
    (case k_StepSet_contains => k_is)
    (case a_StepSet_farthest => k_is)
    (case pg_StepSet_farthest => k_is)
    (case pt_StepSet_farthest => k_is)
    (case pr_StepSet_farthest => k_is)
    (case l_StepSet_farthest => k_is)
    (case e_StepSet_farthest => k_is)
    (case k_StepSet_farthest => k_is)
    (case a_Climate_longest => k_is)
    (case j_Climate_longest => k_is)
    (case l_Climate_longest => k_is)
    (case e_Climate_longest => k_is)
    (case k_Climate_longest => k_is)
    (case a_Climate_need => k_is)
    (case pg_Climate_need => k_is)
    (case pt_Climate_need => k_is)
    (case pr_Climate_need => k_is)
    (case l_Climate_need => k_is)
    (case e_Climate_need => k_is)
    (case k_Climate_need => k_is)
    (case a_f_next_sky => k_is)
    (case l_f_next_sky => k_is)
    (case e_f_next_sky => k_is)
    (case k_f_next_sky => k_is)
    (case a_f_next_stand => k_is)
    (case l_f_next_stand => k_is)
    (case e_f_next_stand => k_is)
    (case k_f_next_stand => k_is)
    (case a_l_take => k_is)
    (case l_l_take => k_is)
    (case e_l_take => k_is)
    (case k_l_take => k_is)
    (case a_l_ab => k_is)
    (case l_l_ab => k_is)
    (case e_l_ab => k_is)
    (case k_l_ab => k_is)
    (case a_l_cell => k_is)
    (case l_l_cell => k_is)
    (case e_l_cell => k_is)
    (case k_l_cell => k_is)
    (case a_StepSet_iter => k_is)
    (case j_StepSet_iter => k_is)
    (case l_StepSet_iter => k_is)
    (case e_StepSet_iter => k_is)
    (case k_StepSet_iter => k_is)
    (case a_l_same => k_is)
    (case l_l_same => k_is)
    (case e_l_same => k_is)
    (case k_l_same => k_is)
    (case a_l_is => k_is)
    (case l_l_is => k_is)
    (case e_l_is => k_is)
    (case k_l_is => k_is)
    (case a_l_items => k_is)
    (case l_l_items => k_is)
    (case e_l_items => k_is)
    (case k_l_items => k_is)
    (case a_l_kinds => k_is)
    (case l_l_kinds => k_is)
    (case e_l_kinds => k_is)
    (case k_l_kinds => k_is)
    (case a_l_made => k_is)
    (case l_l_made => k_is)
    (case e_l_made => k_is)
    (case k_l_made => k_is)
    (case a_l_least_run => k_is)
    (case l_l_least_run => k_is)
    (case e_l_least_run => k_is)
    (case k_l_least_run => k_is)
    (case a_l_plain => k_is)
    (case l_l_plain => k_is)
    (case e_l_plain => k_is)
    (case k_l_plain => k_is)
    (case a_l_need => k_is)
    (case l_l_need => k_is)
    (case e_l_need => k_is)
    (case k_l_need => k_is)
    (case a_l_ages => k_is)
    (case l_l_ages => k_is)
    (case e_l_ages => k_is)
    (case k_l_ages => k_is)
    (case a_l_longest => k_is)
    (case l_l_longest => k_is)
    (case e_l_longest => k_is)
    (case k_l_longest => k_is)
    (case a_l_sky => k_is)
    (case l_l_sky => k_is)
    (case e_l_sky => k_is)
    (case k_l_sky => k_is)
    (case a_l_stand => k_is)
    (case l_l_stand => k_is)
    (case e_l_stand => k_is)
    (case k_l_stand => k_is)
    (case a_l_odd_right => k_is)
    (case l_l_odd_right => k_is)
    (case e_l_odd_right => k_is)
    (case k_l_odd_right => k_is)
    (case a_Lacquer_init => k_is)
    (case j_Lacquer_init => k_is)
    (case l_Lacquer_init => k_is)
    (case e_Lacquer_init => k_is)
    (case k_Lacquer_init => k_is)
    (case a_StepSet_of => k_is)
    (case pr_StepSet_of => k_is)
    (case l_StepSet_of => k_is)
    (case e_StepSet_of => k_is)
    (case k_StepSet_of => k_is)
    (case a_l_of => k_is)
    (case l_l_of => k_is)
    (case e_l_of => k_is)
    (case k_l_of => k_is)
    (case a_l_pool => k_is)
    (case l_l_pool => k_is)
    (case e_l_pool => k_is)
    (case k_l_pool => k_is)
    (case a_l_signs_of => k_is)
    (case l_l_signs_of => k_is)
    (case e_l_signs_of => k_is)
    (case k_l_signs_of => k_is)
    (case a_l_some_stand => k_is)
    (case l_l_some_stand => k_is)
    (case e_l_some_stand => k_is)
    (case k_l_some_stand => k_is)
    (case a_l_law => k_is)
    (case l_l_law => k_is)
    (case e_l_law => k_is)
    (case k_l_law => k_is)
end
