import PyProof.Rows.All
import Wide.All
import OpenK.AllK
import Wide.FinOn
import HandS.ForMost
import HandS.ForExc
import HandS.Wide
import HandS.IsInst
import HandS.Codes
import HandS.Flow
import KE.DataMinMax
import HandS.TupAny
import PyProof.MaxThree
import HandS.Star
import HandS.FStr
import HandS.Property
import HandS.SortKw
import HandS.Defaults
import HandS.ClsMeth
import HandS.SlotsOwn
import HandS.ExcIs
import HandS.Gcd
import HandS.MakeKw
import KE.KOpsOwn
import KE.KOwnIter
import HandS.IterVal
import HandS.RaiseMore
import KE.KExcIs
import HandS.SortInts
import HandS.SortRule
import HandS.TryOnly
import HandS.ExcField
import HandS.Style
import HandS.Dict
import HandS.Text
import KE.DataEq
import PyProof.StrOps2
import HandS.TupLe
import KE.GoesEnum
import KE.GoesMore
import KE.KTupSum
import HandS.Zip
import KE.KExcSuper
import KE.KSuper
import HandS.ExcInit
import HandS.FStrTup
import HandS.OwnIter
import HandS.SetFor
import HandS.Conv
import KE.KCallOwn
import HandS.TupSets
import HandS.Keys
import PySem.Challenge.RW_dampspells_k54_whole_trap
set_option Elab.async false
set_option linter.all false
set_option maxRecDepth 100000
section
namespace PL
open PySem PySem.Spec PyProof.Rows L2
/-- the program's classes -/
inductive Cl
  | DampError | BadRatio | BadLacquer | BadKind | BadWeather | BadHour | BadNumber | BadRow | BadSteps | BadHabit | BadPrice | BadDiary | BadReport | TooLarge | NoWorld
  | BadText | Unsound | Strange | Spoilt | Clash | Refused
  | Ratio | Lacquer | Weather | Climate | StepSet | StepWeb | SkyWeb | Habit | HourWeb | PairWeb | HabitWeb | LongWeather | EndlessRow | Diary | Ledger | Paths | Desk
  deriving DecidableEq, Repr
/-- the fields in the order in which __init__ sets them -/
def Cl.fn : Cl → List Str
  | .BadText => ["at"] | .Unsound => ["kind"] | .Strange => ["hour"] | .Spoilt => ["hour"] | .Clash => ["hour"] | .Refused => ["why"]
  | .Ratio => ["top", "bottom"] | .Lacquer => ["a", "b"] | .Weather => ["lengths"] | .Climate => ["kinds"] | .StepSet => ["steps"] | .StepWeb => ["steps", "climate"] | .SkyWeb => ["climate"]
  | .Habit => ["sight", "rows"] | .LongWeather => ["beginning", "again"] | .Diary => ["marks"]
  | _ => []
/-- values as trees -/
inductive D where
  | non | bl (b : Bool) | int (i : Int) | str (s : Str)
  | tup (xs : List D) | lst (xs : List D) | obj (c : Cl) (xs : List D) | cl (c : Cl) | sq (xs : List D)
  | dK (ks : List Key) (xs : List D) | dT (ks : List (List Key)) (xs : List D)
/-- what a list, an object in the making, a dict holds while it may still change -/
inductive CC where
  | lst (xs : List D) | obj (c : Cl) (kvs : List (Str × D)) | dK (kvs : List (Key × D)) | dT (kvs : List (List Key × D))
/-- own: made here; par: a parameter's -/
inductive CK | own | par
  deriving DecidableEq
def CK.isPar : CK → Bool | .par => true | .own => false
inductive Sl where
  | un | dat (d : D) | cel (k : CK) (c : CC) | exn (c : Cl) (pl : Option D)
inductive Ex (α : Type) | ok (a : α) | er (c : Cl) (pl : Option D)
inductive Rv | d (d : D) | c (c : CC)
inductive Fl | nx | bk | ct | rt (r : Rv)
abbrev M (α : Type) := List Sl → Option (Ex α × List Sl)
abbrev Ev := M Rv
def bnd {α β : Type} (m : M α) (k : α → M β) : M β := fun ρ => match m ρ with
  | some (.ok a, ρ1) => k a ρ1
  | some (.er c pl, ρ1) => some (.er c pl, ρ1)
  | none => none
def pur {α : Type} (a : α) : M α := fun ρ => some (.ok a, ρ)
def fai {α : Type} : M α := fun _ => none
def opt {α : Type} : Option α → M α | some a => pur a | none => fai
def CC.froz : CC → Option D
  | .lst xs => some (.lst xs)
  | .obj c kvs => if kvs.map (·.1) = c.fn then some (.obj c (kvs.map (·.2))) else none
  | .dK kvs => some (.dK (kvs.map (·.1)) (kvs.map (·.2)))
  | .dT kvs => some (.dT (kvs.map (·.1)) (kvs.map (·.2)))
variable (K : PySem.W.Frag) (ad : Cl → Addr)
mutual
inductive Rp (F : Hp) : V → D → Prop
  | non : Rp F .non .non
  | bl (b : Bool) : Rp F (.bl b) (.bl b)
  | int (i : Int) : Rp F (.int i) (.int i)
  | str (s : Str) : Rp F (.str s) (.str s)
  | tup {p : Addr} {vs : List V} {ds : List D} : SqT K F p vs → Rps F vs ds → Rp F (.ref p) (.tup ds)
  | lst {p : Addr} {vs : List V} {ds : List D} : F p = some (.lst vs) → Rps F vs ds → Rp F (.ref p) (.lst ds)
  | sq {p : Addr} {vs : List V} {ds : List D} : SqL K F p vs → Rps F vs ds → Rp F (.ref p) (.sq ds)
  | obj {p dx : Addr} {c : Cl} {vs : List V} {ds : List D} : F p = some (.ins (ad c) dx (c.fn.zip vs)) → c.fn.length = vs.length → Rps F vs ds → Rp F (.ref p) (.obj c ds)
  | cl (c : Cl) : Rp F (.ref (ad c)) (.cl c)
  | dK {p : Addr} {ks : List Key} {vs : List V} {ds : List D} : F p = some (.dK (ks.zip vs)) → ks.length = vs.length → Rps F vs ds → Rp F (.ref p) (.dK ks ds)
  | dT {p : Addr} {ks : List (List Key)} {vs : List V} {ds : List D} : F p = some (.dT (ks.zip vs)) → ks.length = vs.length → Rps F vs ds → Rp F (.ref p) (.dT ks ds)
inductive Rps (F : Hp) : List V → List D → Prop
  | nil : Rps F [] []
  | cons {v : V} {d : D} {vs : List V} {ds : List D} : Rp F v d → Rps F vs ds → Rps F (v :: vs) (d :: ds)
end
variable {K : PySem.W.Frag} {ad : Cl → Addr}
theorem sameT {K : PySem.W.Frag} {H H' : Hp} {a : Addr} {xs : List V} (e : Same H H') (h : SqT K H a xs) : SqT K H' a xs := by
  (rcases h with (h | ⟨o, h⟩) | h)
  · exact .inl (.inl (e _ _ h))
  · (exact .inl (.inr ⟨o, e _ _ h⟩))
  · exact .inr h
mutual
theorem Rp.mono {F F' : Hp} (s : Same F F') : ∀ {v : V} {d : D}, Rp K ad F v d → Rp K ad F' v d
  | _, _, .non => .non
  | _, _, .bl b => .bl b
  | _, _, .int i => .int i
  | _, _, .str x => .str x
  | _, _, .tup h r => .tup (sameT s h) (Rps.mono s r)
  | _, _, .lst h r => .lst (s _ _ h) (Rps.mono s r)
  | _, _, .sq h r => .sq (s.seq h) (Rps.mono s r)
  | _, _, .obj h l r => .obj (s _ _ h) l (Rps.mono s r)
  | _, _, .cl c => .cl c
  | _, _, .dK h l r => .dK (s _ _ h) l (Rps.mono s r)
  | _, _, .dT h l r => .dT (s _ _ h) l (Rps.mono s r)
theorem Rps.mono {F F' : Hp} (s : Same F F') : ∀ {vs : List V} {ds : List D}, Rps K ad F vs ds → Rps K ad F' vs ds
  | _, _, .nil => .nil
  | _, _, .cons h r => .cons (Rp.mono s h) (Rps.mono s r)
end
theorem Rps.len {F : Hp} : ∀ {vs : List V} {ds : List D}, Rps K ad F vs ds → vs.length = ds.length
  | _, _, .nil => rfl
  | _, _, .cons _ r => congrArg (· + 1) r.len
theorem Rps.get {F : Hp} : ∀ {vs : List V} {ds : List D} {i : Nat} {d : D}, Rps K ad F vs ds → ds[i]? = some d → ∃ v, vs[i]? = some v ∧ Rp K ad F v d
  | _, _, _, _, .nil, e =>
    by simp at e
  | _, _, 0, _, .cons h _, e => by simp at e; subst e; exact ⟨_, rfl, h⟩
  | _, _, i + 1, d, .cons _ t, e => by
    obtain ⟨v, h1, h2⟩ := Rps.get (i := i) (d := d) t (by simpa using e)
    exact ⟨v, by simpa using h1, h2⟩
theorem Rps.app {F : Hp} : ∀ {vs : List V} {ds : List D} {us : List V} {es : List D}, Rps K ad F vs ds → Rps K ad F us es → Rps K ad F (vs ++ us) (ds ++ es)
  | _, _, _, _, .nil, s => s
  | _, _, _, _, .cons r t, s => .cons r (Rps.app t s)
theorem Rps.snoc {F : Hp} {vs : List V} {ds : List D} {v : V} {d : D} (h : Rps K ad F vs ds) (r : Rp K ad F v d) : Rps K ad F (vs ++ [v]) (ds ++ [d]) := h.app (.cons r .nil)
theorem Rps.set {F : Hp} {v : V} {d : D} (r : Rp K ad F v d) : ∀ {vs : List V} {ds : List D} (i : Nat), Rps K ad F vs ds → Rps K ad F (vs.set i v) (ds.set i d)
  | _, _, _, .nil => .nil
  | _, _, 0, .cons _ t =>
    .cons r t
  | _, _, i + 1, .cons q t => .cons q (Rps.set r i t)
theorem Rps.take {F : Hp} : ∀ {vs : List V} {ds : List D} (n : Nat), Rps K ad F vs ds → Rps K ad F (vs.take n) (ds.take n)
  | _, _, 0, _ => .nil
  | _, _, _ + 1, .nil => .nil
  | _, _, n + 1, .cons r t => .cons r (Rps.take n t)
theorem Rps.drop {F : Hp} : ∀ {vs : List V} {ds : List D} (n : Nat), Rps K ad F vs ds → Rps K ad F (vs.drop n) (ds.drop n)
  | _, _, 0, r => r
  | _, _, _ + 1, .nil => .nil
  | _, _, n + 1, .cons _ t => Rps.drop n t
theorem Rps.rev {F : Hp} : ∀ {vs : List V} {ds : List D}, Rps K ad F vs ds → Rps K ad F vs.reverse ds.reverse
  | _, _, .nil => .nil
  | _, _, .cons r t => by
    (rw [List.reverse_cons, List.reverse_cons])
    exact (Rps.rev t).snoc r
theorem Rps.ints {F : Hp} : ∀ {ns : List Int} {vs : List V}, Rps K ad F vs (ns.map D.int) → vs = ns.map V.int
  | [], _, h => by cases h; rfl
  | n :: ns, _, h => by
    rw [List.map_cons] at h
    cases h with
    | cons h t => cases h; rw [List.map_cons, Rps.ints t]
theorem Rps.bls {F : Hp} : ∀ {ns : List Bool} {vs : List V}, Rps K ad F vs (ns.map D.bl) → vs = ns.map V.bl
  | [], _, h => by cases h; rfl
  | n :: ns, _, h => by
    rw [List.map_cons] at h
    cases h with
    | cons h t => cases h; rw [List.map_cons, Rps.bls t]
theorem Rps.strs {F : Hp} : ∀ {ns : List Str} {vs : List V}, Rps K ad F vs (ns.map D.str) → vs = ns.map V.str
  | [], _, h => by cases h; rfl
  | n :: ns, _, h => by
    rw [List.map_cons] at h
    cases h with
    | cons h t => cases h; rw [List.map_cons, Rps.strs t]
variable (K ad) in
def CelR (F H : Hp) (p : Addr) : CC → Prop
  | .lst xs => ∃ vs, H p = some (.lst vs) ∧ Rps K ad F vs xs
  | .obj c kvs => ∃ dx vs, H p = some (.ins (ad c) dx ((kvs.map (·.1)).zip vs)) ∧ Rps K ad F vs (kvs.map (·.2))
  | .dK kvs => ∃ vs, H p = some (.dK ((kvs.map (·.1)).zip vs)) ∧ Rps K ad F vs (kvs.map (·.2))
  | .dT kvs => ∃ vs, H p = some (.dT ((kvs.map (·.1)).zip vs)) ∧ Rps K ad F vs (kvs.map (·.2))
theorem CelR.at {F H : Hp} {p : Addr} : ∀ {c : CC}, CelR K ad F H p c → ∃ o, H p = some o
  | .lst _, ⟨_, h, _⟩ => ⟨_, h⟩
  | .obj _ _, ⟨_, _, h, _⟩ => ⟨_, h⟩
  | .dK _, ⟨_, h, _⟩ => ⟨_, h⟩
  | .dT _, ⟨_, h, _⟩ => ⟨_, h⟩
theorem CelR.keep {F F' H H' : Hp} {p : Addr} (s : Same F F') (e : H' p = H p) : ∀ {c : CC}, CelR K ad F H p c → CelR K ad F' H' p c
  | .lst _, ⟨vs, h, r⟩ => ⟨vs, e.trans h, r.mono s⟩
  | .obj _ _, ⟨dx, vs, h, r⟩ => ⟨dx, vs, e.trans h, r.mono s⟩
  | .dK _, ⟨vs, h, r⟩ => ⟨vs, e.trans h, r.mono s⟩
  | .dT _, ⟨vs, h, r⟩ => ⟨vs, e.trans h, r.mono s⟩
/-- frozen: what stands at p is data from now on -/
theorem CelR.froz {F H : Hp} {p : Addr} {d : D} : ∀ {c : CC}, CelR K ad F H p c → c.froz = some d → F p = none → ∃ o, H p = some o ∧ Same F (upd F p o) ∧ Rp K ad (upd F p o) (.ref p) d
  | .lst xs, ⟨vs, h, r⟩, e, n => by
    cases e
    have s : Same F (upd F p (.lst vs)) := fun b u q => by rw [upd_ne (ne_of_none q n)]; exact q
    exact ⟨_, h, s, .lst upd_same (r.mono s)⟩
  | .obj c kvs, ⟨dx, vs, h, r⟩, e, n => by
    have e : (if kvs.map (·.1) = c.fn then some (D.obj c (kvs.map (·.2))) else none) = some d := e
    split at e
    · rename_i q
      cases e
      have s : Same F (upd F p (.ins (ad c) dx ((kvs.map (·.1)).zip vs))) := fun b u q => by rw [upd_ne (ne_of_none q n)]; exact q
      refine ⟨_, h, s, .obj (dx := dx) (vs := vs) ?_ ?_ (r.mono s)⟩
      · rw [upd_same, q]
      · have := r.len
        rw [← q, List.length_map, this, List.length_map]
    · cases e
  | .dK kvs, ⟨vs, h, r⟩, e, n => by
    cases e
    have s : Same F (upd F p (.dK ((kvs.map (·.1)).zip vs))) := fun b u q => by rw [upd_ne (ne_of_none q n)]; exact q
    refine ⟨_, h, s, .dK upd_same ?_ (r.mono s)⟩
    have := r.len
    rw [List.length_map, this, List.length_map]
  | .dT kvs, ⟨vs, h, r⟩, e, n => by
    cases e
    have s : Same F (upd F p (.dT ((kvs.map (·.1)).zip vs))) := fun b u q => by rw [upd_ne (ne_of_none q n)]; exact q
    refine ⟨_, h, s, .dT upd_same ?_ (r.mono s)⟩
    have := r.len
    rw [List.length_map, this, List.length_map]
/-- the frame: what must stay, what was data at the start, the parameters that may change, the handled exception -/
structure Fr where
  P : Hp
  F0 : Hp
  pa : Nat → Option Addr
/-- the classes' places, and the exception that a suite holds -/
structure CT where
  ad : Cl → Addr
  ea : Addr := 0
  ecl : Value := .none
  ed : Option Addr := none
abbrev cx (ad : Cl → Addr) : CT := { ad := ad }
variable {ct : CT}
variable (K ad) in
def PlR (F : Hp) (c : Cl) : Option D → Option Addr → Prop
  | none, d => d = none
  | some x, d => ∃ a f v, d = some a ∧ c.fn = [f] ∧ F a = some (.xd [(f, v)]) ∧ Rp K ad F v x
theorem PlR.mono {F F' : Hp} (s : Same F F') {c : Cl} {d : Option Addr} : ∀ {pl : Option D}, PlR K ad F c pl d → PlR K ad F' c pl d
  | none, h => h
  | some _, ⟨a, f, v, h1, h2, h3, h4⟩ => ⟨a, f, v, h1, h2, s _ _ h3, h4.mono s⟩
variable (K ct) in
def SlR (fr : Fr) (F H : Hp) (i : Nat) (o : Option V) : Sl → Prop
  | .un => True
  | .dat d => ∃ v, o = some v ∧ Rp K ct.ad F v d
  | .cel k c => ∃ p, o = some (.ref p) ∧ F p = none ∧ fr.P p = none ∧ (k.isPar = true → fr.pa i = some p) ∧ (k.isPar = false → ∀ j, fr.pa j ≠ some p) ∧ CelR K ct.ad F H p c
  | .exn c pl => o = some (.ref ct.ea) ∧ ct.ecl = .ref (ct.ad c) ∧ PlR K ct.ad F c pl ct.ed
variable (K ct) in
structure Rel (fr : Fr) (F H : Hp) (σ : L2.St) (ρ : List Sl) : Prop where
  len : σ.length = ρ.length
  fh : Same F H
  slot : ∀ (i : Nat) (s : Sl), ρ[i]? = some s → ∃ o, σ[i]? = some o ∧ SlR K ct fr F H i o s
  dis : ∀ (i j : Nat) (k : CK) (c : CC) (k' : CK) (c' : CC) (p : Addr), ρ[i]? = some (.cel k c) → ρ[j]? = some (.cel k' c') → σ[i]? = some (some (.ref p)) → σ[j]? = some (some (.ref p)) → i = j
  keep : Same fr.P H
  fro : ∀ b, fr.P b ≠ none → fr.F0 b = none → F b = none
  pcs : ∀ (i : Nat) (p : Addr), fr.pa i = some p → ∃ k c, ρ[i]? = some (.cel k c) ∧ k.isPar = true
variable (K ad) in
/-- a new cell that no slot has -/
def Fresh (fr : Fr) (F H : Hp) (σ : L2.St) (ρ : List Sl) (p : Addr) (c : CC) : Prop :=
  F p = none ∧ fr.P p = none ∧ (∀ j, fr.pa j ≠ some p) ∧ CelR K ad F H p c ∧ ∀ (i : Nat) (k : CK) (c' : CC), ρ[i]? = some (.cel k c') → σ[i]? ≠ some (some (.ref p))
section
variable {fr : Fr} {F F' H H' : Hp} {σ : L2.St} {ρ : List Sl}
/-- the heaps grow -/
theorem Rel.grow (S : Rel K ct fr F H σ ρ) (f : Same F F') (h : Same H H') (fh : Same F' H') (n : ∀ b, H b ≠ none → F b = none → F' b = none) : Rel K ct fr F' H' σ ρ := by
  refine ⟨S.len, fh, fun i s e => ?_, S.dis, S.keep.trans h, fun b hb h0 => n b (fun z => ?_) (S.fro b hb h0), S.pcs⟩
  · obtain ⟨o, e1, r⟩ := S.slot i s e
    refine ⟨o, e1, ?_⟩
    cases s with
    | un => trivial
    | dat d => obtain ⟨v, e2, r⟩ := r; exact ⟨v, e2, r.mono f⟩
    | cel k c =>
      obtain ⟨p, e2, e3, e4, e5, e6, r⟩ := r
      obtain ⟨o', ho⟩ := r.at
      refine ⟨p, e2, n p (by rw [ho]; simp) e3, e4, e5, e6, r.keep f ?_⟩
      rw [h _ _ ho, ho]
    | exn c pl => exact ⟨r.1, r.2.1, r.2.2.mono f⟩
  · cases q : fr.P b with
    | none => exact hb q
    | some o => rw [S.keep b o q] at z; cases z
theorem Fresh.grow {p : Addr} {c : CC} (S : Fresh K ad fr F H σ ρ p c) (f : Same F F') (h : Same H H') (n : ∀ b, H b ≠ none → F b = none → F' b = none) : Fresh K ad fr F' H' σ ρ p c := by
  obtain ⟨h1, h2, h3, h4, h5⟩ := S
  obtain ⟨o', ho⟩ := h4.at
  exact ⟨n p (by rw [ho]; simp) h1, h2, h3, h4.keep f (by rw [h _ _ ho, ho]), h5⟩
theorem Rel.nn (S : Rel K ct fr F H σ ρ) {p : Addr} (h : H p = none) : F p = none := by
  cases q : F p with
  | none => rfl
  | some o => rw [S.fh p o q] at h; cases h
theorem Rel.np (S : Rel K ct fr F H σ ρ) {p : Addr} (h : H p = none) : fr.P p = none := by
  cases q : fr.P p with
  | none => rfl
  | some o => rw [S.keep p o q] at h; cases h
theorem same_up {H : Hp} {p : Addr} {o : HO} (h : H p = none) : Same H (upd H p o) := fun b u e => by
  rw [upd_ne (ne_of_none e h)]
  exact e
/-- a new object, data at once -/
theorem Rel.newD (S : Rel K ct fr F H σ ρ) {p : Addr} {o : HO} (h : H p = none) : Rel K ct fr (upd F p o) (upd H p o) σ ρ := by
  refine S.grow (same_up (S.nn h)) (same_up h) (fun b u e => ?_) fun b hb e => ?_
  · by_cases q : b = p
    · subst q; rw [upd_same] at e; rw [upd_same]; exact e
    · rw [upd_ne q] at e; rw [upd_ne q]; exact S.fh _ _ e
  · rw [upd_ne (fun q => hb (by rw [q]; exact h))]
    exact e
/-- a new object, not yet data -/
theorem Rel.newC (S : Rel K ct fr F H σ ρ) {p : Addr} {o : HO} (h : H p = none) : Rel K ct fr F (upd H p o) σ ρ :=
  S.grow (Same.refl _) (same_up h) (S.fh.trans (same_up h)) fun _ _ e => e
theorem Rel.cell_at (S : Rel K ct fr F H σ ρ) {i : Nat} {k : CK} {c : CC} (e : ρ[i]? = some (.cel k c)) : ∃ p o, σ[i]? = some (some (.ref p)) ∧ H p = some o := by
  obtain ⟨o, e1, p, e2, _, _, _, _, r⟩ := S.slot i _ e
  obtain ⟨o', ho⟩ := r.at
  exact ⟨p, o', by rw [e1, e2], ho⟩
theorem Rel.fresh (S : Rel K ct fr F H σ ρ) {p : Addr} {o : HO} {c : CC} (h : H p = none) (r : CelR K ct.ad F (upd H p o) p c) : Fresh K ct.ad fr F (upd H p o) σ ρ p c := by
  refine ⟨S.nn h, S.np h, fun j e => ?_, r, fun i k c' e1 e2 => ?_⟩
  · obtain ⟨k, c, e1, hk⟩ := S.pcs j p e
    obtain ⟨o1, _, p', rfl, _, _, e5, e6, r'⟩ := S.slot j _ e1
    obtain ⟨o', ho⟩ := r'.at
    have z := e5 hk
    rw [e] at z
    cases z
    rw [h] at ho
    cases ho
  · obtain ⟨p', o', e3, ho⟩ := S.cell_at e1
    rw [e3] at e2
    cases e2
    rw [h] at ho
    cases ho
/-- a slot gets data -/
theorem Rel.setD (S : Rel K ct fr F H σ ρ) {i : Nat} {v : V} {d : D} (r : Rp K ct.ad F v d) (np : fr.pa i = none) : Rel K ct fr F H (σ.set i (some v)) (ρ.set i (.dat d)) := by
  have dn : ∀ {j : Nat} {k : CK} {c : CC}, (ρ.set i (.dat d))[j]? = some (.cel k c) → j ≠ i ∧ ρ[j]? = some (.cel k c) := fun {j k c} e => by
    by_cases q : i = j
    · subst q
      by_cases l : i < ρ.length
      · rw [List.getElem?_set_self l] at e; cases e
      · rw [List.getElem?_eq_none (by simp; omega)] at e; cases e
    · rw [List.getElem?_set_ne q] at e; exact ⟨fun z => q z.symm, e⟩
  refine ⟨by simp [S.len], S.fh, fun j s e => ?_, fun a b k c k' c' p e1 e2 e3 e4 => ?_, S.keep, S.fro, fun j p e => ?_⟩
  · by_cases q : i = j
    · subst q
      by_cases l : i < ρ.length
      · rw [List.getElem?_set_self l] at e
        cases e
        exact ⟨some v, by rw [List.getElem?_set_self (by rw [S.len]; exact l)], v, rfl, r⟩
      · rw [List.getElem?_eq_none (by simp; omega)] at e; cases e
    · rw [List.getElem?_set_ne q] at e
      obtain ⟨o, h1, h2⟩ := S.slot j s e
      exact ⟨o, by rw [List.getElem?_set_ne q]; exact h1, h2⟩
  · obtain ⟨n1, f1⟩ := dn e1
    obtain ⟨n2, f2⟩ := dn e2
    rw [List.getElem?_set_ne (Ne.symm n1)] at e3
    rw [List.getElem?_set_ne (Ne.symm n2)] at e4
    exact S.dis a b k c k' c' p f1 f2 e3 e4
  · obtain ⟨k, c, h1, h2⟩ := S.pcs j p e
    refine ⟨k, c, ?_, h2⟩
    rw [List.getElem?_set_ne (fun q => by rw [q, e] at np; cases np)]
    exact h1
/-- a slot is forgotten, what stands there stays -/
theorem Rel.setU (S : Rel K ct fr F H σ ρ) {i : Nat} (np : fr.pa i = none) {w : Option V} : Rel K ct fr F H (σ.set i w) (ρ.set i .un) := by
  have dn : ∀ {j : Nat} {k : CK} {c : CC}, (ρ.set i .un)[j]? = some (.cel k c) → j ≠ i ∧ ρ[j]? = some (.cel k c) := fun {j k c} e => by
    by_cases q : i = j
    · subst q
      by_cases l : i < ρ.length
      · rw [List.getElem?_set_self l] at e; cases e
      · rw [List.getElem?_eq_none (by simp; omega)] at e; cases e
    · rw [List.getElem?_set_ne q] at e; exact ⟨fun z => q z.symm, e⟩
  refine ⟨by simp [S.len], S.fh, fun j s e => ?_, fun a b k c k' c' p e1 e2 e3 e4 => ?_, S.keep, S.fro, fun j p e => ?_⟩
  · by_cases q : i = j
    · subst q
      by_cases l : i < ρ.length
      · rw [List.getElem?_set_self l] at e
        cases e
        exact ⟨w, by rw [List.getElem?_set_self (by rw [S.len]; exact l)], trivial⟩
      · rw [List.getElem?_eq_none (by simp; omega)] at e; cases e
    · rw [List.getElem?_set_ne q] at e
      obtain ⟨o, h1, h2⟩ := S.slot j s e
      exact ⟨o, by rw [List.getElem?_set_ne q]; exact h1, h2⟩
  · obtain ⟨n1, f1⟩ := dn e1
    obtain ⟨n2, f2⟩ := dn e2
    rw [List.getElem?_set_ne (Ne.symm n1)] at e3
    rw [List.getElem?_set_ne (Ne.symm n2)] at e4
    exact S.dis a b k c k' c' p f1 f2 e3 e4
  · obtain ⟨k, c, h1, h2⟩ := S.pcs j p e
    refine ⟨k, c, ?_, h2⟩
    rw [List.getElem?_set_ne (fun q => by rw [q, e] at np; cases np)]
    exact h1
theorem set_id {α : Type} {xs : List α} {i : Nat} {x : α} (h : xs[i]? = some x) : xs.set i x = xs := by
  (refine List.ext_getElem? fun j => ?_)
  by_cases q : i = j
  · subst q
    rw [List.getElem?_set_self (List.getElem?_eq_some_iff.mp h).1, h]
  · rw [List.getElem?_set_ne q]
/-- a slot is forgotten -/
theorem Rel.unR (S : Rel K ct fr F H σ ρ) {i : Nat} (np : fr.pa i = none) : Rel K ct fr F H σ (ρ.set i .un) := by
  by_cases l : i < σ.length
  · have e : σ.set i σ[i] = σ := set_id (List.getElem?_eq_getElem l)
    have := S.setU (w := σ[i]) np
    rw [e] at this
    exact this
  · rw [List.set_eq_of_length_le (by rw [← S.len]; omega)]
    exact S
/-- a slot gets a cell that nobody has -/
theorem Rel.setC (S : Rel K ct fr F H σ ρ) {i : Nat} {p : Addr} {c : CC} (r : Fresh K ct.ad fr F H σ ρ p c) (np : fr.pa i = none) : Rel K ct fr F H (σ.set i (some (.ref p))) (ρ.set i (.cel .own c)) := by
  obtain ⟨r1, r2, r3, r4, r5⟩ := r
  have dn : ∀ {j : Nat} {k : CK} {c' : CC}, (ρ.set i (.cel .own c))[j]? = some (.cel k c') → (j = i) ∨ (j ≠ i ∧ ρ[j]? = some (.cel k c')) := fun {j k c'} e => by
    by_cases q : i = j
    · exact .inl q.symm
    · rw [List.getElem?_set_ne q] at e; exact .inr ⟨fun z => q z.symm, e⟩
  refine ⟨by simp [S.len], S.fh, fun j s e => ?_, fun a b k d k' d' q e1 e2 e3 e4 => ?_, S.keep, S.fro, fun j p e => ?_⟩
  · by_cases q : i = j
    · subst q
      by_cases l : i < ρ.length
      · rw [List.getElem?_set_self l] at e
        cases e
        exact ⟨_, by rw [List.getElem?_set_self (by rw [S.len]; exact l)], p, rfl, r1, r2, (fun z => by cases z), (fun _ => r3), r4⟩
      · rw [List.getElem?_eq_none (by simp; omega)] at e; cases e
    · rw [List.getElem?_set_ne q] at e
      obtain ⟨o, h1, h2⟩ := S.slot j s e
      exact ⟨o, by rw [List.getElem?_set_ne q]; exact h1, h2⟩
  · have at_i : ∀ {z : Option V}, (σ.set i (some (.ref p)))[i]? = some z → z = some (.ref p) := fun {z} h => by
      by_cases l : i < σ.length
      · rw [List.getElem?_set_self l] at h; cases h; rfl
      · rw [List.getElem?_eq_none (by simp; omega)] at h; cases h
    rcases dn e1 with z1 | ⟨n1, f1⟩
    · rcases dn e2 with z2 | ⟨n2, f2⟩
      · rw [z1, z2]
      · subst z1
        have := at_i e3
        cases this
        rw [List.getElem?_set_ne (Ne.symm n2)] at e4
        exact absurd e4 (r5 _ _ _ f2)
    · rcases dn e2 with z2 | ⟨n2, f2⟩
      · subst z2
        have := at_i e4
        cases this
        rw [List.getElem?_set_ne (Ne.symm n1)] at e3
        exact absurd e3 (r5 _ _ _ f1)
      · rw [List.getElem?_set_ne (Ne.symm n1)] at e3
        rw [List.getElem?_set_ne (Ne.symm n2)] at e4
        exact S.dis a b k d k' d' q f1 f2 e3 e4
  · obtain ⟨k, c, h1, h2⟩ := S.pcs j p e
    refine ⟨k, c, ?_, h2⟩
    rw [List.getElem?_set_ne (fun q => by rw [q, e] at np; cases np)]
    exact h1
/-- a cell's content changes -/
theorem Rel.updC (S : Rel K ct fr F H σ ρ) {i : Nat} {p : Addr} {k k' : CK} {c c' : CC} {o : HO} (e : ρ[i]? = some (.cel k c)) (es : σ[i]? = some (some (.ref p))) (hk : k'.isPar = k.isPar) (r : CelR K ct.ad F (upd H p o) p c') : Rel K ct fr F (upd H p o) σ (ρ.set i (.cel k' c')) := by
  obtain ⟨o1, q1, p', q2, q3, q4, q5, q6, q7⟩ := S.slot i _ e
  rw [q1] at es
  cases es
  cases q2
  have il := (List.getElem?_eq_some_iff.mp e).1
  have fp : ∀ b u, F b = some u → b ≠ p := fun b u z w => by rw [w, q3] at z; cases z
  have dn : ∀ {j : Nat} {k1 : CK} {c1 : CC}, (ρ.set i (.cel k' c'))[j]? = some (.cel k1 c1) → ∃ k2 c2, ρ[j]? = some (.cel k2 c2) := fun {j k1 c1} z => by
    by_cases q : i = j
    · subst q; exact ⟨k, c, e⟩
    · rw [List.getElem?_set_ne q] at z; exact ⟨_, _, z⟩
  refine ⟨by simp [S.len], fun b u z => ?_, fun j s z => ?_, fun a b k1 d k2 d' q e1 e2 e3 e4 => ?_, fun b u z => ?_, S.fro, fun j q z => ?_⟩
  · rw [upd_ne (fp b u z)]; exact S.fh _ _ z
  · by_cases q : i = j
    · subst q
      rw [List.getElem?_set_self il] at z
      cases z
      exact ⟨_, q1, p, rfl, q3, q4, (fun y => q5 (hk ▸ y)), (fun y => q6 (hk ▸ y)), r⟩
    · rw [List.getElem?_set_ne q] at z
      obtain ⟨u, h1, h2⟩ := S.slot j s z
      refine ⟨u, h1, ?_⟩
      cases s with
      | un => trivial
      | dat d => exact h2
      | cel k1 c1 =>
        obtain ⟨p1, g1, g2, g3, g4, g5, g6⟩ := h2
        subst g1
        refine ⟨p1, rfl, g2, g3, g4, g5, g6.keep (Same.refl _) ?_⟩
        rw [upd_ne]
        intro w
        subst w
        exact q (S.dis i j k c k1 c1 p1 e z q1 h1)
      | exn _ _ => exact h2
  · obtain ⟨_, _, f1⟩ := dn e1
    obtain ⟨_, _, f2⟩ := dn e2
    exact S.dis a b _ _ _ _ q f1 f2 e3 e4
  · rw [upd_ne (fun w => by rw [w, q4] at z; cases z)]; exact S.keep _ _ z
  · obtain ⟨k1, c1, h1, h2⟩ := S.pcs j q z
    by_cases w : i = j
    · subst w
      rw [e] at h1
      cases h1
      exact ⟨k', c', by rw [List.getElem?_set_self il], by rw [hk]; exact h2⟩
    · exact ⟨k1, c1, by rw [List.getElem?_set_ne w]; exact h1, h2⟩
/-- a cell becomes data -/
theorem Rel.frz (S : Rel K ct fr F H σ ρ) {i : Nat} {k : CK} {c : CC} {d : D} (e : ρ[i]? = some (.cel k c)) (hk : k.isPar = false) (hf : c.froz = some d) :
    ∃ p F', σ[i]? = some (some (.ref p)) ∧ Same F F' ∧ Rp K ct.ad F' (.ref p) d ∧ Rel K ct fr F' H σ (ρ.set i (.dat d)) := by
  obtain ⟨o1, q1, p, q2, q3, q4, q5, q6, q7⟩ := S.slot i _ e
  subst q2
  obtain ⟨o, ho, sm, rp⟩ := q7.froz hf q3
  have il := (List.getElem?_eq_some_iff.mp e).1
  have np : fr.pa i = none := by
    cases z : fr.pa i with
    | none => rfl
    | some q =>
      obtain ⟨k1, c1, h1, h2⟩ := S.pcs i q z
      rw [e] at h1
      cases h1
      rw [hk] at h2
      cases h2
  have dn : ∀ {j : Nat} {k1 : CK} {c1 : CC}, (ρ.set i (.dat d))[j]? = some (.cel k1 c1) → j ≠ i ∧ ρ[j]? = some (.cel k1 c1) := fun {j k1 c1} z => by
    by_cases q : i = j
    · subst q; rw [List.getElem?_set_self il] at z; cases z
    · rw [List.getElem?_set_ne q] at z; exact ⟨fun w => q w.symm, z⟩
  refine ⟨p, _, q1, sm, rp, by simp [S.len], fun b u z => ?_, fun j s z => ?_, fun a b k1 d1 k2 d2 q e1 e2 e3 e4 => ?_, S.keep, fun b hb h0 => ?_, fun j q z => ?_⟩
  · by_cases w : b = p
    · subst w; rw [upd_same] at z; cases z; exact ho
    · rw [upd_ne w] at z; exact S.fh _ _ z
  · by_cases q : i = j
    · subst q
      rw [List.getElem?_set_self il] at z
      cases z
      exact ⟨_, q1, _, rfl, rp⟩
    · rw [List.getElem?_set_ne q] at z
      obtain ⟨u, h1, h2⟩ := S.slot j s z
      refine ⟨u, h1, ?_⟩
      cases s with
      | un => trivial
      | dat d => obtain ⟨v, g1, g2⟩ := h2; exact ⟨v, g1, g2.mono sm⟩
      | cel k1 c1 =>
        obtain ⟨p1, g1, g2, g3, g4, g5, g6⟩ := h2
        subst g1
        refine ⟨p1, rfl, ?_, g3, g4, g5, g6.keep sm rfl⟩
        rw [upd_ne]
        · exact g2
        · intro w
          subst w
          exact q (S.dis i j k c k1 c1 p1 e z q1 h1)
      | exn _ _ => exact ⟨h2.1, h2.2.1, h2.2.2.mono sm⟩
  · obtain ⟨_, f1⟩ := dn e1
    obtain ⟨_, f2⟩ := dn e2
    exact S.dis a b _ _ _ _ q f1 f2 e3 e4
  · rw [upd_ne (fun w => hb (by rw [w]; exact q4))]
    exact S.fro b hb h0
  · obtain ⟨k1, c1, h1, h2⟩ := S.pcs j q z
    exact ⟨k1, c1, by rw [List.getElem?_set_ne (fun w => by rw [w, z] at np; cases np)]; exact h1, h2⟩
/-- a new cell becomes data -/
theorem Fresh.frz {p : Addr} {c : CC} {d : D} (r : Fresh K ct.ad fr F H σ ρ p c) (S : Rel K ct fr F H σ ρ) (hf : c.froz = some d) : ∃ F', Same F F' ∧ Rp K ct.ad F' (.ref p) d ∧ Rel K ct fr F' H σ ρ := by
  obtain ⟨r1, r2, r3, r4, r5⟩ := r
  obtain ⟨o, ho, sm, rp⟩ := r4.froz hf r1
  refine ⟨_, sm, rp, S.len, fun b u z => ?_, fun j s z => ?_, S.dis, S.keep, fun b hb h0 => ?_, S.pcs⟩
  · by_cases w : b = p
    · subst w; rw [upd_same] at z; cases z; exact ho
    · rw [upd_ne w] at z; exact S.fh _ _ z
  · obtain ⟨u, h1, h2⟩ := S.slot j s z
    refine ⟨u, h1, ?_⟩
    cases s with
    | un => trivial
    | dat d => obtain ⟨v, g1, g2⟩ := h2; exact ⟨v, g1, g2.mono sm⟩
    | cel k1 c1 =>
      obtain ⟨p1, g1, g2, g3, g4, g5, g6⟩ := h2
      subst g1
      refine ⟨p1, rfl, ?_, g3, g4, g5, g6.keep sm rfl⟩
      rw [upd_ne]
      · exact g2
      · intro w
        subst w
        exact r5 _ _ _ z h1
    | exn _ _ => exact ⟨h2.1, h2.2.1, h2.2.2.mono sm⟩
  · rw [upd_ne (fun w => hb (by rw [w]; exact r2))]
    exact S.fro b hb h0
end
end PL
end
section
namespace PL
open PySem PySem.Spec PyProof.Rows L2
variable {K : PySem.W.Frag} {ad : Cl → Addr} {ct : CT}
abbrev Rel3 (β α : Type) := Fr → Hp → Hp → L2.St → List Sl → β → α → Prop
variable (K ct) in
def Tat {β α : Type} (R : Rel3 β α) (W : WX) (fr : Fr) (F : Hp) (ρ : List Sl) (m : M α) (σ : L2.St) (Q : β → Hp → Prop) : Prop :=
  ∃ r ρ', m ρ = some (r, ρ') ∧ match r with
    | .ok a => ∀ v F' H', Same F F' → Rel K ct fr F' H' σ ρ' → R fr F' H' σ ρ' v a → Q v H'
    | .er c pl => ∀ d F' H', Same F F' → Rel K ct fr F' H' σ ρ' → PlR K ct.ad F' c pl d → W (.ref (ct.ad c)) d σ H'
variable (K ct) in
def T {β α : Type} (R : Rel3 β α) (W : WX) (m : M α) : L2.St → Hp → (β → Hp → Prop) → Prop := fun σ H Q => ∃ fr F ρ, Rel K ct fr F H σ ρ ∧ Tat K ct R W fr F ρ m σ Q
variable (K ad) in
def RD : Rel3 V D := fun _ F _ _ _ v d => Rp K ad F v d
variable (K ad) in
def RV : Rel3 V Rv := fun fr F H σ ρ v r => match r with
  | .d d => Rp K ad F v d
  | .c c => ∃ p, v = .ref p ∧ Fresh K ad fr F H σ ρ p c
def RB : Rel3 Bool Bool := fun _ _ _ _ _ b a => b = a
/-- an argument: data, or a cell that stands in slot j -/
inductive Ar | d (d : D) | c (j : Nat)
variable (K ad) in
def RA1 (F : Hp) (σ : L2.St) (v : V) : Ar → Prop
  | .d d => Rp K ad F v d
  | .c j => σ[j]? = some (some v)
variable (K ad) in
inductive RAs (F : Hp) (σ : L2.St) : List V → List Ar → Prop
  | nil : RAs F σ [] []
  | cons {v : V} {a : Ar} {vs : List V} {as : List Ar} : RA1 K ad F σ v a → RAs F σ vs as → RAs F σ (v :: vs) (a :: as)
variable (K ad) in
def RA : Rel3 (List V) (List Ar) := fun _ F _ σ _ vs as => RAs K ad F σ vs as
variable (K ad) in
def RDs : Rel3 (List V) (List D) := fun _ F _ _ _ vs ds => Rps K ad F vs ds
variable {fr : Fr} {F F' H H' : Hp} {σ : L2.St} {ρ : List Sl} {W : WX}
section
variable {α β γ δ : Type} {R : Rel3 β α} {R' : Rel3 δ γ} {m : M α} {k : α → M γ} {Q : δ → Hp → Prop} {Q1 : β → Hp → Prop}
theorem Tat.bndT (h : Tat K ct R' W fr F ρ (PL.bnd m k) σ Q)
    (hq : ∀ F1 H1 ρ1 v a, Same F F1 → Rel K ct fr F1 H1 σ ρ1 → R fr F1 H1 σ ρ1 v a → Tat K ct R' W fr F1 ρ1 (k a) σ Q → Q1 v H1) : Tat K ct R W fr F ρ m σ Q1 := by
  obtain ⟨r, ρ', e, q⟩ := h
  unfold PL.bnd at e
  cases em : m ρ with
  | none => rw [em] at e; cases e
  | some x =>
    obtain ⟨r1, ρ1⟩ := x
    rw [em] at e
    cases r1 with
    | ok a =>
      refine ⟨.ok a, ρ1, em, fun v F1 H1 s1 S1 r1 => hq F1 H1 ρ1 v a s1 S1 r1 ⟨r, ρ', e, ?_⟩⟩
      cases r with
      | ok z => exact fun v F' H' s' => q v F' H' (s1.trans s')
      | er c pl => exact fun d F' H' s' => q d F' H' (s1.trans s')
    | er c pl =>
      refine ⟨.er c pl, ρ1, em, ?_⟩
      have e : (some (Ex.er c pl, ρ1) : Option (Ex γ × List Sl)) = some (r, ρ') := e
      cases e
      exact q
theorem Tat.bnd (h : Tat K ct R' W fr F ρ (PL.bnd m k) σ Q) (S : Rel K ct fr F H σ ρ)
    (hq : ∀ F1 H1 ρ1 v a, Same F F1 → Rel K ct fr F1 H1 σ ρ1 → R fr F1 H1 σ ρ1 v a → Tat K ct R' W fr F1 ρ1 (k a) σ Q → Q1 v H1) : T K ct R W m σ H Q1 := ⟨fr, F, ρ, S, h.bndT hq⟩
theorem Tat.ok {a : γ} (h : Tat K ct R' W fr F ρ (pur a) σ Q) : ∀ v F' H', Same F F' → Rel K ct fr F' H' σ ρ → R' fr F' H' σ ρ v a → Q v H' := by
  obtain ⟨r, ρ', e, q⟩ := h
  cases e
  exact q
theorem Tat.opt {o : Option γ} (h : Tat K ct R' W fr F ρ (PL.opt o) σ Q) : ∃ a, o = some a ∧ ∀ v F' H', Same F F' → Rel K ct fr F' H' σ ρ → R' fr F' H' σ ρ v a → Q v H' := by
  cases o with
  | none => obtain ⟨r, ρ', e, q⟩ := h; cases e
  | some a => exact ⟨a, rfl, h.ok⟩
theorem Tat.to (h : Tat K ct R W fr F ρ m σ Q1) (S : Rel K ct fr F H σ ρ) : T K ct R W m σ H Q1 := ⟨fr, F, ρ, S, h⟩
theorem Tat.mono (h : Tat K ct R W fr F ρ m σ Q1) (s : Same F F') : Tat K ct R W fr F' ρ m σ Q1 := by
  obtain ⟨r, ρ', e, q⟩ := h
  refine ⟨r, ρ', e, ?_⟩
  cases r with
  | ok z => exact fun v F' H' s' => q v F' H' (s.trans s')
  | er c pl => exact fun d F' H' s' => q d F' H' (s.trans s')
end
/-- the value as data: a new cell is frozen -/
def dat (m : Ev) : M D := bnd m fun r => match r with
  | .d d => pur d
  | .c c => opt c.froz
theorem Tat.datT {δ γ : Type} {R' : Rel3 δ γ} {m : Ev} {k : D → M γ} {Q : δ → Hp → Prop} {Q1 : V → Hp → Prop} (h : Tat K ct R' W fr F ρ (PL.bnd (PL.dat m) k) σ Q)
    (hq : ∀ F1 H1 ρ1 v d, Same F F1 → Rel K ct fr F1 H1 σ ρ1 → Rp K ct.ad F1 v d → Tat K ct R' W fr F1 ρ1 (k d) σ Q → Q1 v H1) : Tat K ct (RV K ct.ad) W fr F ρ m σ Q1 := by
  have e : PL.bnd (PL.dat m) k = PL.bnd m fun r => PL.bnd (match r with | Rv.d d => pur d | Rv.c c => PL.opt c.froz) k := by
    funext ρ
    unfold PL.dat PL.bnd
    cases em : m ρ with
    | none => rfl
    | some x =>
      obtain ⟨r1, ρ1⟩ := x
      cases r1 with
      | ok a => cases a <;> rfl
      | er c pl => rfl
  rw [e] at h
  refine h.bndT fun F1 H1 ρ1 v r s1 S1 r1 q => ?_
  cases r with
  | d d => exact hq F1 H1 ρ1 v d s1 S1 r1 (by obtain ⟨r, ρ', e, q⟩ := q; exact ⟨r, ρ', e, q⟩)
  | c c =>
    obtain ⟨p, ev, fp⟩ := r1
    subst ev
    cases ef : c.froz with
    | none =>
      obtain ⟨r, ρ', e, q⟩ := q
      have e : PL.bnd (PL.opt c.froz) k ρ1 = some (r, ρ') := e
      rw [ef] at e
      cases e
    | some d =>
      obtain ⟨F2, s2, rp, S2⟩ := fp.frz S1 ef
      refine hq F2 H1 ρ1 _ d (s1.trans s2) S2 rp ?_
      have q2 := q.mono s2
      obtain ⟨r, ρ', e, q⟩ := q2
      have e : PL.bnd (PL.opt c.froz) k ρ1 = some (r, ρ') := e
      rw [ef] at e
      exact ⟨r, ρ', e, q⟩
theorem Tat.dat {δ γ : Type} {R' : Rel3 δ γ} {m : Ev} {k : D → M γ} {Q : δ → Hp → Prop} {Q1 : V → Hp → Prop} (h : Tat K ct R' W fr F ρ (PL.bnd (PL.dat m) k) σ Q) (S : Rel K ct fr F H σ ρ)
    (hq : ∀ F1 H1 ρ1 v d, Same F F1 → Rel K ct fr F1 H1 σ ρ1 → Rp K ct.ad F1 v d → Tat K ct R' W fr F1 ρ1 (k d) σ Q → Q1 v H1) : T K ct (RV K ct.ad) W m σ H Q1 := ⟨fr, F, ρ, S, h.datT hq⟩
/-! the derivations weakened -/
section
variable {X : Cx}
theorem _root_.L2.PE.imp {e : Expr} {t t' : TE} (h : PE X e t) (w : ∀ σ H Q, t' σ H Q → t σ H Q) : PE X e t' := ⟨fun pins s σ H Q I q => h.run pins s σ H Q I (w σ H Q q)⟩
theorem _root_.L2.PT.imp {e : Expr} {t t' : TT} (h : PT X e t) (w : ∀ σ H Q, t' σ H Q → t σ H Q) : PT X e t' := ⟨fun pins s σ H Q I q => h.run pins s σ H Q I (w σ H Q q)⟩
theorem _root_.L2.PW.imp {e : Expr} {t t' : TT} (h : PW X e t) (w : ∀ σ H Q, t' σ H Q → t σ H Q) : PW X e t' := ⟨fun wh pins s σ H Q I q => h.run wh pins s σ H Q I (w σ H Q q)⟩
theorem _root_.L2.PTs.imp {es : List Expr} {t t' : TT} (h : PTs X es t) (w : ∀ σ H Q, t' σ H Q → t σ H Q) : PTs X es t' := ⟨fun pins s σ H Q I q => h.run pins s σ H Q I (w σ H Q q)⟩
theorem _root_.L2.PA.imp {es : List Expr} {t t' : TA} (h : PA X es t) (w : ∀ σ H Q, t' σ H Q → t σ H Q) : PA X es t' := ⟨fun pos pins s σ H Q I q => h.run pos pins s σ H Q I (w σ H Q q)⟩
theorem _root_.L2.PS.imp {st : Stmt} {t t' : TS} (h : PS X st t) (w : ∀ D σ H, t' D σ H → t D σ H) : PS X st t' := ⟨fun pins s σ H D I q => h.run pins s σ H D I (w D σ H q)⟩
theorem _root_.L2.PSs.imp {st : List Stmt} {t t' : TS} (h : PSs X st t) (w : ∀ D σ H, t' D σ H → t D σ H) : PSs X st t' := ⟨fun pins s σ H D I q => h.run pins s σ H D I (w D σ H q)⟩
theorem _root_.L2.PG.imp {e : Expr} {t t' : TG} (h : PG X e t) (w : ∀ v σ H Q, t' v σ H Q → t v σ H Q) : PG X e t' := ⟨fun pins s σ H v u Q I r q => h.run pins s σ H v u Q I r (w v σ H Q q)⟩
theorem _root_.L2.PO.imp {e : Option Expr} {t t' : TO} (h : PO X e t) (w : ∀ σ H Q, t' σ H Q → t σ H Q) : PO X e t' := ⟨fun pins s σ H Q I q => h.run pins s σ H Q I (w σ H Q q)⟩
theorem _root_.L2.PI.imp {tg e : Expr} {t t' : TI} (h : PI X tg e t) (w : ∀ σ H Q, t' σ H Q → t σ H Q) : PI X tg e t' := ⟨fun pins s σ H Q I q => h.run pins s σ H Q I (w σ H Q q)⟩
end
/-! ### expressions -/
variable (K ct) in
abbrev TP (W : WX) (m : Ev) : TE := T K ct (RV K ct.ad) W m
variable (K ct) in
abbrev TB (W : WX) (m : M Bool) : TT := T K ct RB W m
variable (K ct) in
abbrev TAr (W : WX) (m : M (List Ar)) : TA := T K ct (RA K ct.ad) W m
def vD (d : D) : Ev := pur (.d d)
/-- a name -/
def evV (i : Nat) : Ev := fun ρ => match ρ[i]? with
  | some (.dat d) => some (.ok (.d d), ρ)
  | _ => none
/-- .. that is data from now on -/
def evF (i : Nat) : Ev := fun ρ => match ρ[i]? with
  | some (.dat d) => some (.ok (.d d), ρ)
  | some (.cel .own c) => (c.froz).map fun d => (.ok (.d d), ρ.set i (.dat d))
  | _ => none
/-- .. that hands over its cell -/
def evM (i : Nat) : Ev := fun ρ => match ρ[i]? with
  | some (.dat d) => some (.ok (.d d), ρ)
  | some (.cel .own c) => some (.ok (.c c), ρ.set i .un)
  | _ => none
section
variable {X : Cx} {a b c : Expr} {fa fb fc : Ev} {pos : Pos}
theorem w_v {i : Nat} {Q : VK} (h : TP K ct W (evV i) σ H Q) : tVar i σ H Q := by
  obtain ⟨fr, F, ρ, S, r, ρ', e, q⟩ := h
  unfold evV at e
  split at e
  · rename_i d hd
    cases e
    obtain ⟨o, h1, v, h2, h3⟩ := S.slot i _ hd
    subst h2
    exact ⟨v, h1, q v F H (Same.refl _) S h3⟩
  · cases e
theorem w_f {i : Nat} {Q : VK} (h : TP K ct W (evF i) σ H Q) : tVar i σ H Q := by
  obtain ⟨fr, F, ρ, S, r, ρ', e, q⟩ := h
  unfold evF at e
  split at e
  · rename_i d hd
    cases e
    obtain ⟨o, h1, v, h2, h3⟩ := S.slot i _ hd
    subst h2
    exact ⟨v, h1, q v F H (Same.refl _) S h3⟩
  · rename_i c hc
    cases ef : c.froz with
    | none => rw [ef] at e; cases e
    | some d =>
      rw [ef] at e
      cases e
      obtain ⟨p, F', h1, s, rp, S'⟩ := S.frz hc rfl ef
      exact ⟨_, h1, q _ F' H s S' rp⟩
  · cases e
theorem Rel.own (S : Rel K ct fr F H σ ρ) {i : Nat} {k : CK} {c : CC} (e : ρ[i]? = some (.cel k c)) (hk : k.isPar = false) : fr.pa i = none := by
  cases z : fr.pa i with
  | none => rfl
  | some q =>
    obtain ⟨k1, c1, h1, h2⟩ := S.pcs i q z
    rw [e] at h1
    cases h1
    rw [hk] at h2
    cases h2
theorem w_m {i : Nat} {Q : VK} (h : TP K ct W (evM i) σ H Q) : tVar i σ H Q := by
  obtain ⟨fr, F, ρ, S, r, ρ', e, q⟩ := h
  unfold evM at e
  split at e
  · rename_i d hd
    cases e
    obtain ⟨o, h1, v, h2, h3⟩ := S.slot i _ hd
    subst h2
    exact ⟨v, h1, q v F H (Same.refl _) S h3⟩
  · rename_i c hc
    cases e
    have np := S.own hc rfl
    obtain ⟨o, h1, p, h2, h3, h4, h5, h6, h7⟩ := S.slot i _ hc
    subst h2
    refine ⟨_, h1, q _ F H (Same.refl _) (S.unR np) ⟨p, rfl, h3, h4, h6 rfl, h7, fun j k c' z1 z2 => ?_⟩⟩
    by_cases w : i = j
    · subst w
      rw [List.getElem?_set_self (List.getElem?_eq_some_iff.mp hc).1] at z1
      cases z1
    · rw [List.getElem?_set_ne w] at z1
      exact w (S.dis i j _ _ _ _ p hc z1 h1 z2)
  · cases e
theorem pp_v (i : Nat) {x : Str} (h : PE X (.Name x pos) (tVar i)) : PE X (.Name x pos) (TP K ct W (evV i)) := h.imp fun _ _ _ => w_v
theorem pp_f (i : Nat) {x : Str} (h : PE X (.Name x pos) (tVar i)) : PE X (.Name x pos) (TP K ct W (evF i)) := h.imp fun _ _ _ => w_f
theorem pp_m (i : Nat) {x : Str} (h : PE X (.Name x pos) (tVar i)) : PE X (.Name x pos) (TP K ct W (evM i)) := h.imp fun _ _ _ => w_m
/-- a value that needs no heap -/
def D.toV : D → Option V
  | .non => some .non | .bl b => some (.bl b) | .int i => some (.int i) | .str s => some (.str s) | _ => none
theorem D.toV_rp {d : D} {v : V} (h : d.toV = some v) : Rp K ct.ad F v d := by
  cases d <;> cases h <;> constructor
theorem w_c {d : D} {v : V} {Q : VK} (hd : d.toV = some v) (h : TP K ct W (vD d) σ H Q) : tC v σ H Q := by
  obtain ⟨fr, F, ρ, S, h⟩ := h
  exact h.ok v F H (Same.refl _) S (D.toV_rp hd)
theorem pp_c {e : Expr} {d : D} {v : V} (h : PE X e (tC v)) (hd : d.toV = some v := by rfl) : PE X e (TP K ct W (vD d)) := h.imp fun _ _ _ => w_c hd
/-- a two-place operation on data -/
def ev2 (g : D → D → Option D) (a b : Ev) : Ev := bnd (dat a) fun x => bnd (dat b) fun y => opt ((g x y).map Rv.d)
def ev2c (g : D → D → Option CC) (a b : Ev) : Ev := bnd (dat a) fun x => bnd (dat b) fun y => opt ((g x y).map Rv.c)
def ev1 (g : D → Option D) (a : Ev) : Ev := bnd (dat a) fun x => opt ((g x).map Rv.d)
variable (K ad) in
def O2 (r : R2) (g : D → D → Option D) : Prop := ∀ {F H : Hp} {x y : V} {d e z : D} {Q : VK}, Same F H → Rp K ad F x d → Rp K ad F y e → g d e = some z → (∀ v, Rp K ad F v z → Q v H) → r x y H Q
variable (K ad) in
def O1 (r : V → Hp → VK → Prop) (g : D → Option D) : Prop := ∀ {F H : Hp} {x : V} {d z : D} {Q : VK}, Same F H → Rp K ad F x d → g d = some z → (∀ v, Rp K ad F v z → Q v H) → r x H Q
variable (K ad) in
/-- .. that makes a new object -/
def O2c (r : R2) (g : D → D → Option CC) : Prop := ∀ {F H : Hp} {x y : V} {d e : D} {z : CC} {Q : VK}, Same F H → Rp K ad F x d → Rp K ad F y e → g d e = some z → (∀ p o, H p = none → (F p = none → CelR K ad F (upd H p o) p z) → Q (.ref p) (upd H p o)) → r x y H Q
theorem map_some {α β : Type} {o : Option α} {f : α → β} {b : β} (h : o.map f = some b) : ∃ a, o = some a ∧ f a = b := by
  cases o with
  | none => cases h
  | some a => exact ⟨a, rfl, Option.some.inj h⟩
theorem w_2 {r : R2} {g : D → D → Option D} (O : O2 K ct.ad r g) {Q : VK} (h : TP K ct W (ev2 g fa fb) σ H Q) : tOp r (TP K ct W fa) (TP K ct W fb) σ H Q := by
  obtain ⟨fr, F, ρ, S, h⟩ := h
  refine h.dat S fun F1 H1 ρ1 v d s1 S1 r1 h => ?_
  refine h.dat S1 fun F2 H2 ρ2 u e s2 S2 r2 h => ?_
  obtain ⟨z, e1, q⟩ := h.opt
  obtain ⟨y, e2, rfl⟩ := map_some e1
  exact O S2.fh (r1.mono s2) r2 e2 fun v rv => q v F2 H2 (Same.refl _) S2 rv
theorem w_1 {r : V → Hp → VK → Prop} {g : D → Option D} (O : O1 K ct.ad r g) {Q : VK} (h : TP K ct W (ev1 g fa) σ H Q) : tUn r (TP K ct W fa) σ H Q := by
  obtain ⟨fr, F, ρ, S, h⟩ := h
  refine h.dat S fun F1 H1 ρ1 v d s1 S1 r1 h => ?_
  obtain ⟨z, e1, q⟩ := h.opt
  obtain ⟨y, e2, rfl⟩ := map_some e1
  exact O S1.fh r1 e2 fun v rv => q v F1 H1 (Same.refl _) S1 rv
theorem pp_2 {op : Operator} {r : R2} {g : D → D → Option D} (ho : OpR X (binaryOp op) r) (O : O2 K ct.ad r g) (ha : PE X a (TP K ct W fa)) (hb : PE X b (TP K ct W fb)) : PE X (.BinOp a op b pos) (TP K ct W (ev2 g fa fb)) := (pe_op ho ha hb).imp fun _ _ _ => w_2 O
theorem pp_1 {op : UnaryOp} {r : V → Hp → VK → Prop} {g : D → Option D} (ho : UnR X (unaryOp op) r) (O : O1 K ct.ad r g) (ha : PE X a (TP K ct W fa)) : PE X (.UnaryOp op a pos) (TP K ct W (ev1 g fa)) := (pe_un ho ha).imp fun _ _ _ => w_1 O
theorem pp_cmp {op : CmpOp} {r : R2} {g : D → D → Option D} (ho : OpR X (compareOp op) r) (O : O2 K ct.ad r g) (ha : PE X a (TP K ct W fa)) (hb : PE X b (TP K ct W fb)) (hm : behindInMarks op b = false) : PE X (.Compare a [op] [b] pos) (TP K ct W (ev2 g fa fb)) := (pe_cmpR ho ha hb hm).imp fun _ _ _ => w_2 O
/-- tests -/
def tst (a : Ev) : M Bool := bnd (dat a) fun x => match x with | .bl b => pur b | _ => fai
theorem w_t {Q : Bool → Hp → Prop} (h : TB K ct W (tst fa) σ H Q) : tTest (TP K ct W fa) σ H Q := by
  obtain ⟨fr, F, ρ, S, h⟩ := h
  refine h.dat S fun F1 H1 ρ1 v d s1 S1 r1 h => ?_
  cases d with
  | bl b =>
    cases r1
    exact ⟨b, rfl, h.ok b F1 H1 (Same.refl _) S1 rfl⟩
  | _ => obtain ⟨_, _, e, _⟩ := h; cases e
theorem pp_tcmp {op : CmpOp} {r : R2} {g : D → D → Option D} (ho : OpR X (compareOp op) r) (O : O2 K ct.ad r g) (ha : PE X a (TP K ct W fa)) (hb : PE X b (TP K ct W fb)) (hm : behindInMarks op b = false) : PT X (.Compare a [op] [b] pos) (TB K ct W (tst (ev2 g fa fb))) := by
  refine (pt_cmpR ho ha hb hm).imp fun σ H Q h => ?_
  have z := w_t h
  obtain ⟨fr, F, ρ, S, h⟩ := z
  exact w_2 O ⟨fr, F, ρ, S, h⟩
theorem pp_tval {e : Expr} (h : PE X e (TP K ct W fa)) (he : ∀ whole, isTrue e X.env whole = (do let v ← whole; standAt e.pos; holding [v] (truthy v)) := by intro _; rfl) : PT X e (TB K ct W (tst fa)) := (pt_val h he).imp fun _ _ _ => w_t
end
end PL
end
section
namespace PL
open PySem PySem.Spec PyProof.Rows L2
variable {K : PySem.W.Frag} {ad : Cl → Addr} {ct : CT}
variable {fr : Fr} {F F' H H' : Hp} {σ : L2.St} {ρ : List Sl} {W : WX}
/-! ### ints -/
def dAdd : D → D → Option D | .int i, .int j => some (.int (i + j)) | _, _ => none
def dSub : D → D → Option D | .int i, .int j => some (.int (i - j)) | _, _ => none
/-- a product: one factor below 2 ^ 64, or both not beyond a million bits -/
def mulOk (i j : Int) : Prop := (-(2 ^ 64) < i ∧ i < 2 ^ 64) ∨ (-(2 ^ 64) < j ∧ j < 2 ^ 64) ∨ i.natAbs.log2 + j.natAbs.log2 < 1000000
instance (i j : Int) : Decidable (mulOk i j) := by unfold mulOk; infer_instance
def dMul : D → D → Option D | .int i, .int j => if mulOk i j then some (.int (i * j)) else none | _, _ => none
def divOk (j : Int) : Prop := 0 < j ∧ (j < 1073741824 ∨ j.natAbs.log2 < 9000)
instance (j : Int) : Decidable (divOk j) := by unfold divOk; infer_instance
def dDiv : D → D → Option D | .int i, .int j => if divOk j then some (.int (i / j)) else none | _, _ => none
def dDivN : D → D → Option D | .int i, .int j => if j ≠ 0 ∧ j.natAbs.log2 < 9000 then some (.int (i.fdiv j)) else none | _, _ => none
def dMod : D → D → Option D | .int i, .int j => if 0 < j then some (.int (i % j)) else none | _, _ => none
def dPow : D → D → Option D | .int i, .int j => if 0 ≤ j ∧ j ≤ 1000000 ∧ i.natAbs < 2 ^ 64 then some (.int (i ^ j.toNat)) else none | _, _ => none
def dNeg : D → Option D | .int i => some (.int (-i)) | _ => none
def dLt : D → D → Option D | .int i, .int j => some (.bl (decide (i < j))) | _, _ => none
def dLe : D → D → Option D | .int i, .int j => some (.bl (decide (i ≤ j))) | _, _ => none
def dGt : D → D → Option D | .int i, .int j => some (.bl (decide (j < i))) | _, _ => none
def dGe : D → D → Option D | .int i, .int j => some (.bl (decide (j ≤ i))) | _, _ => none
theorem o_0 {g : Int → Int → V} {gd : Int → Int → D} {G : D → D → Option D} (hg : ∀ d e z, G d e = some z → ∃ i j, d = .int i ∧ e = .int j ∧ z = gd i j) (hv : ∀ i j, (gd i j).toV = some (g i j)) : O2 K ct.ad (rI0 g) G := by
  intro F H x y d e z Q s r1 r2 e1 q
  obtain ⟨i, j, rfl, rfl, rfl⟩ := hg d e z e1
  cases r1
  cases r2
  exact ⟨i, j, rfl, rfl, q _ (D.toV_rp (hv i j))⟩
theorem o_add : O2 K ct.ad (rI0 fun i j => .int (i + j)) dAdd := o_0 (gd := fun i j => .int (i + j)) (fun d e z h => by
  cases d <;> cases e <;> cases h
  exact ⟨_, _, rfl, rfl, rfl⟩) (fun _ _ => rfl)
theorem o_sub : O2 K ct.ad (rI0 fun i j => .int (i - j)) dSub := o_0 (gd := fun i j => .int (i - j)) (fun d e z h => by
  cases d <;> cases e <;> cases h
  exact ⟨_, _, rfl, rfl, rfl⟩) (fun _ _ => rfl)
theorem o_lt : O2 K ct.ad (rI0 fun i j => .bl (decide (i < j))) dLt := o_0 (gd := fun i j => .bl (decide (i < j))) (fun d e z h => by
  cases d <;> cases e <;> cases h
  exact ⟨_, _, rfl, rfl, rfl⟩) (fun _ _ => rfl)
theorem o_le : O2 K ct.ad (rI0 fun i j => .bl (decide (i ≤ j))) dLe := o_0 (gd := fun i j => .bl (decide (i ≤ j))) (fun d e z h => by
  cases d <;> cases e <;> cases h
  exact ⟨_, _, rfl, rfl, rfl⟩) (fun _ _ => rfl)
theorem o_gt : O2 K ct.ad (rI0 fun i j => .bl (decide (j < i))) dGt := o_0 (gd := fun i j => .bl (decide (j < i))) (fun d e z h => by
  cases d <;> cases e <;> cases h
  exact ⟨_, _, rfl, rfl, rfl⟩) (fun _ _ => rfl)
theorem o_ge : O2 K ct.ad (rI0 fun i j => .bl (decide (j ≤ i))) dGe := o_0 (gd := fun i j => .bl (decide (j ≤ i))) (fun d e z h => by
  cases d <;> cases e <;> cases h
  exact ⟨_, _, rfl, rfl, rfl⟩) (fun _ _ => rfl)
/-- a product, either way -/
def rMulB : R2 := fun x y H Q => ∃ i j, x = .int i ∧ y = .int j ∧ mulOk i j ∧ Q (.int (i * j)) H
theorem op_mulB {X : Cx} : OpR X (binaryOp .Mult) rMulB := by
  intro pins s σ H x y v u Q I rx ry ⟨i, j, ex, ey, hc, q⟩
  rcases hc with hc | hc | hc
  · exact op_mul pins s σ H x y v u Q I rx ry ⟨i, j, ex, ey, .inl hc, q⟩
  · exact op_mul pins s σ H x y v u Q I rx ry ⟨i, j, ex, ey, .inr hc, q⟩
  · exact op_mulW pins s σ H x y v u Q I rx ry ⟨i, j, ex, ey, hc, q⟩
def rDivB : R2 := fun x y H Q => ∃ i j, x = .int i ∧ y = .int j ∧ divOk j ∧ Q (.int (i / j)) H
theorem op_divB {X : Cx} : OpR X (binaryOp .FloorDiv) rDivB := by
  intro pins s σ H x y v u Q I rx ry ⟨i, j, ex, ey, ⟨h0, hc⟩, q⟩
  rcases hc with hc | hc
  · exact op_fdiv pins s σ H x y v u Q I rx ry ⟨i, j, ex, ey, ⟨h0, hc⟩, q⟩
  · exact op_fdivW pins s σ H x y v u Q I rx ry ⟨i, j, ex, ey, ⟨h0, hc⟩, q⟩
def rDivN : R2 := fun x y H Q => ∃ i j, x = .int i ∧ y = .int j ∧ (j ≠ 0 ∧ j.natAbs.log2 < 9000) ∧ Q (.int (i.fdiv j)) H
theorem o_mul : O2 K ct.ad rMulB dMul := by
  intro F H x y d e z Q s r1 r2 e1 q
  cases d <;> cases e <;> try cases e1
  rename_i i j
  cases r1; cases r2
  have e1 : (if mulOk i j then some (D.int (i * j)) else none) = some z := e1
  split at e1
  · rename_i h
    cases e1
    exact ⟨i, j, rfl, rfl, h, q _ (.int _)⟩
  · cases e1
theorem o_div : O2 K ct.ad rDivB dDiv := by
  intro F H x y d e z Q s r1 r2 e1 q
  cases d <;> cases e <;> try cases e1
  rename_i i j
  cases r1; cases r2
  have e1 : (if divOk j then some (D.int (i / j)) else none) = some z := e1
  split at e1
  · rename_i h
    cases e1
    exact ⟨i, j, rfl, rfl, h, q _ (.int _)⟩
  · cases e1
theorem o_mod : O2 K ct.ad (rI (fun _ j => 0 < j) fun i j => .int (i % j)) dMod := by
  intro F H x y d e z Q s r1 r2 e1 q
  cases d <;> cases e <;> try cases e1
  rename_i i j
  cases r1; cases r2
  have e1 : (if 0 < j then some (D.int (i % j)) else none) = some z := e1
  split at e1
  · rename_i h
    cases e1
    exact ⟨i, j, rfl, rfl, h, q _ (.int _)⟩
  · cases e1
theorem o_pow : O2 K ct.ad (rI CPow fun i j => .int (i ^ j.toNat)) dPow := by
  intro F H x y d e z Q s r1 r2 e1 q
  cases d <;> cases e <;> try cases e1
  rename_i i j
  cases r1; cases r2
  have e1 : (if 0 ≤ j ∧ j ≤ 1000000 ∧ i.natAbs < 2 ^ 64 then some (D.int (i ^ j.toNat)) else none) = some z := e1
  split at e1
  · rename_i h
    cases e1
    exact ⟨i, j, rfl, rfl, h, q _ (.int _)⟩
  · cases e1
theorem o_neg : O1 K ct.ad (rU fun i => .int (-i)) dNeg := by
  intro F H x d z Q s r e q
  cases d <;> cases e
  cases r
  exact ⟨_, rfl, q _ (.int _)⟩
/-! ### texts, lists, tuples -/
def dAddS : D → D → Option D | .str s, .str t => if s.length + t.length ≤ 16777216 then some (.str (s ++ t)) else none | _, _ => none
def rAddS : R2 := fun x y H Q => ∃ i j, x = .str i ∧ y = .str j ∧ i.length + j.length ≤ sizeLine ∧ Q (.str (i ++ j)) H
theorem op_addSS {X : Cx} : OpR X (binaryOp .Add) rAddS := op_add_str
theorem o_addS : O2 K ct.ad rAddS dAddS := by
  intro F H x y d e z Q s r1 r2 e1 q
  cases d <;> cases e <;> try cases e1
  rename_i i j
  cases r1; cases r2
  have e1 : (if i.length + j.length ≤ 16777216 then some (D.str (i ++ j)) else none) = some z := e1
  split at e1
  · rename_i h
    cases e1
    exact ⟨i, j, rfl, rfl, h, q _ (.str _)⟩
  · cases e1
def cCat : D → D → Option CC | .lst xs, .lst ys => if xs.length + ys.length ≤ 16777216 then some (.lst (xs ++ ys)) else none | _, _ => none
def rep {α : Type} (n : Nat) (xs : List α) : List α := (List.replicate n xs).flatten
def cRep : D → D → Option CC | .lst xs, .int k => if -(2 ^ 63) ≤ k ∧ k < 2 ^ 63 ∧ xs.length * k.toNat ≤ 16777216 then some (.lst (rep k.toNat xs)) else none | _, _ => none
def dCatT : D → D → Option D | .tup xs, .tup ys => if xs.length + ys.length ≤ 16777216 then some (.tup (xs ++ ys)) else none | _, _ => none
/-! ### comparisons of data -/
mutual
def D.py : D → Option PyData
  | .non => some .none | .bl b => some (.bool b) | .int i => some (.int i) | .str s => some (.str s)
  | .tup xs => (D.pys xs).map PyData.tuple | .lst xs => (D.pys xs).map PyData.list | .sq xs => (D.pys xs).map PyData.list
  | _ => none
def D.pys : List D → Option (List PyData)
  | [] => some []
  | x :: xs => match D.py x, D.pys xs with | some a, some b => some (a :: b) | _, _ => none
end
mutual
theorem Rp.dp {F H : Hp} (s : Same F H) : ∀ {d : D} {v : V} {e : PyData}, Rp K ct.ad F v d → d.py = some e → Dp K H v e
  | .non, _, _, h, q => by cases h; cases q; exact .non
  | .bl _, _, _, h, q => by cases h; cases q; exact .bl _
  | .int _, _, _, h, q => by cases h; cases q; exact .int _
  | .str _, _, _, h, q => by cases h; cases q; exact .str _
  | .tup xs, _, _, h, q => by
    cases h with
    | tup h r =>
      rw [D.py] at q
      obtain ⟨a, e1, rfl⟩ := map_some q
      exact .tup (sameT s h) (Rps.dp s r e1)
  | .lst xs, _, _, h, q => by
    cases h with
    | lst h r =>
      rw [D.py] at q
      obtain ⟨a, e1, rfl⟩ := map_some q
      exact .lst (SqL.of (s _ _ h)) (Rps.dp s r e1)
  | .sq xs, _, _, h, q => by
    cases h with
    | sq h r =>
      rw [D.py] at q
      obtain ⟨a, e1, rfl⟩ := map_some q
      exact .lst (s.seq h) (Rps.dp s r e1)
  | .obj _ _, _, _, _, q => by simp [D.py] at q
  | .cl _, _, _, _, q => by simp [D.py] at q
  | .dK _ _, _, _, _, q => by simp [D.py] at q
  | .dT _ _, _, _, _, q => by simp [D.py] at q
theorem Rps.dp {F H : Hp} (s : Same F H) : ∀ {ds : List D} {vs : List V} {es : List PyData}, Rps K ct.ad F vs ds → D.pys ds = some es → DpAll K H vs es
  | [], _, _, h, q => by cases h; rw [D.pys] at q; cases q; exact .nil
  | d :: ds, _, _, h, q => by
    cases h with
    | cons h t =>
      rw [D.pys] at q
      split at q
      · rename_i a b e1 e2
        cases q
        exact .cons (Rp.dp s h e1) (Rps.dp s t e2)
      · cases q
end
/-- == as Python has it, of data of one kind -/
def D.eq? : D → D → Option Bool
  | .non, .non => some true | .non, .int _ => some false | .int _, .non => some false | .non, .bl _ => some false | .bl _, .non => some false | .non, .str _ => some false | .str _, .non => some false
  | .int i, .int j => some (decide (i = j)) | .bl b, .bl c => some (b == c) | .str s, .str t => some (decide (s = t))
  | .int _, .str _ => some false | .str _, .int _ => some false | .bl _, .str _ => some false | .str _, .bl _ => some false
  | d, e => match d.py, e.py with
    | some x, some y => if SeqAt.shaped x && SeqAt.shaped y then some (PyData.eqv x y) else none
    | _, _ => none
def dEq (d e : D) : Option D := (d.eq? e).map .bl
def dNe (d e : D) : Option D := (d.eq? e).map fun b => .bl (!b)
def rEqB (K : PySem.W.Frag) : R2 := fun x y H Q => rEq x y H Q ∨ rEqD K x y H Q
def rNeB (K : PySem.W.Frag) : R2 := fun x y H Q => rNe x y H Q ∨ rNeD K x y H Q
theorem op_eqB {X : Cx} (hu : X.A.units + 64 < cLine) : OpR X (compareOp .Eq) (rEqB X.K) := fun pins s σ H x y v u Q I rx ry h => h.elim (op_eq pins s σ H x y v u Q I rx ry) (op_eqD hu pins s σ H x y v u Q I rx ry)
theorem op_neB {X : Cx} (hu : X.A.units + 64 < cLine) : OpR X (compareOp .NotEq) (rNeB X.K) := fun pins s σ H x y v u Q I rx ry h => h.elim (op_ne pins s σ H x y v u Q I rx ry) (op_neD hu pins s σ H x y v u Q I rx ry)
/-- how two equal or unequal data lie -/
theorem eq_cases {F H : Hp} {x y : V} {d e : D} {b : Bool} (s : Same F H) (r1 : Rp K ct.ad F x d) (r2 : Rp K ct.ad F y e) (h : d.eq? e = some b) :
    (scal x y = true ∧ decide (x = y) = b) ∨ ∃ p q, Dp K H x p ∧ Dp K H y q ∧ SeqAt.shaped p = true ∧ SeqAt.shaped q = true ∧ PyData.eqv p q = b := by
  have deep : ∀ (h : (match d.py, e.py with | some x, some y => if SeqAt.shaped x && SeqAt.shaped y then some (PyData.eqv x y) else none | _, _ => none) = some b),
      ∃ p q, Dp K H x p ∧ Dp K H y q ∧ SeqAt.shaped p = true ∧ SeqAt.shaped q = true ∧ PyData.eqv p q = b := fun h => by
    split at h
    · rename_i p q e1 e2
      split at h
      · rename_i c
        rw [Bool.and_eq_true] at c
        cases h
        exact ⟨p, q, r1.dp s e1, r2.dp s e2, c.1, c.2, rfl⟩
      · cases h
    · cases h
  cases d <;> cases e <;> first
    | exact .inr (deep h)
    | (cases r1; cases r2; cases h; exact .inl ⟨rfl, by first | rfl | simp | (rename_i p q; cases p <;> cases q <;> rfl)⟩)
theorem o_eq : O2 K ct.ad (rEqB K) dEq := by
  intro F H x y d e z Q s r1 r2 e1 q
  obtain ⟨b, h, rfl⟩ := map_some e1
  rcases eq_cases s r1 r2 h with ⟨h1, h2⟩ | ⟨p, p', h1, h2, h3, h4, h5⟩
  · exact .inl ⟨h1, by rw [h2]; exact q _ (.bl b)⟩
  · exact .inr ⟨p, p', h1, h2, h3, h4, by rw [h5]; exact q _ (.bl b)⟩
theorem o_ne : O2 K ct.ad (rNeB K) dNe := by
  intro F H x y d e z Q s r1 r2 e1 q
  obtain ⟨b, h, rfl⟩ := map_some e1
  rcases eq_cases s r1 r2 h with ⟨h1, h2⟩ | ⟨p, p', h1, h2, h3, h4, h5⟩
  · exact .inl ⟨h1, by rw [h2]; exact q _ (.bl _)⟩
  · exact .inr ⟨p, p', h1, h2, h3, h4, by rw [h5]; exact q _ (.bl _)⟩
/-- is None, is not None -/
def D.isN : D → Bool | .non => true | _ => false
def dIs : D → D → Option D | d, .non => some (.bl d.isN) | _, _ => none
def dIsNot : D → D → Option D | d, .non => some (.bl (!d.isN)) | _, _ => none
def rIsN : R2 := fun y z H Q => z = .non ∧ Q (.bl (decide (y = .non))) H
def rNotN : R2 := fun y z H Q => z = .non ∧ Q (.bl (!decide (y = .non))) H
theorem op_isNN {X : Cx} : OpR X (compareOp .Is) rIsN := op_isN
theorem Rp.isN {F : Hp} {v : V} {d : D} (r : Rp K ct.ad F v d) : decide (v = .non) = d.isN := by cases r <;> rfl
theorem o_is : O2 K ct.ad rIsN dIs := by
  intro F H x y d e z Q s r1 r2 e1 q
  cases e <;> cases e1
  cases r2
  exact ⟨rfl, by rw [r1.isN]; exact q _ (.bl _)⟩
/-! ### and, or, not, conditional -/
section
variable {X : Cx} {a b c d : Expr} {fa fb fc fd : Ev} {ta tb : M Bool} {pos : Pos}
def tNo (t : M Bool) : M Bool := bnd t fun b => pur (!b)
def tAn (t u : M Bool) : M Bool := bnd t fun b => if b then u else pur false
def tOo (t u : M Bool) : M Bool := bnd t fun b => if b then pur true else u
theorem w_no {Q : Bool → Hp → Prop} (h : TB K ct W (tNo ta) σ H Q) : tNot (TB K ct W ta) σ H Q := by
  obtain ⟨fr, F, ρ, S, h⟩ := h
  exact h.bnd S fun F1 H1 ρ1 v d s1 S1 r1 h => h.ok _ F1 H1 (Same.refl _) S1 (by cases r1; rfl)
theorem w_an {Q : Bool → Hp → Prop} (h : TB K ct W (tAn ta tb) σ H Q) : tAnd (TB K ct W ta) (TB K ct W tb) σ H Q := by
  obtain ⟨fr, F, ρ, S, h⟩ := h
  refine h.bnd S fun F1 H1 ρ1 v d s1 S1 r1 h => ?_
  cases r1
  cases v with
  | true => exact h.to S1
  | false => exact h.ok _ F1 H1 (Same.refl _) S1 rfl
theorem w_oo {Q : Bool → Hp → Prop} (h : TB K ct W (tOo ta tb) σ H Q) : tOr (TB K ct W ta) (TB K ct W tb) σ H Q := by
  obtain ⟨fr, F, ρ, S, h⟩ := h
  refine h.bnd S fun F1 H1 ρ1 v d s1 S1 r1 h => ?_
  cases r1
  cases v with
  | false => exact h.to S1
  | true => exact h.ok _ F1 H1 (Same.refl _) S1 rfl
theorem pp_tno (h : PT X a (TB K ct W ta)) : PT X (.UnaryOp .Not a pos) (TB K ct W (tNo ta)) := (pt_not h).imp fun _ _ _ => w_no
theorem pp_wan {rest : List Expr} (ha : PT X a (TB K ct W ta)) (hb : PW X (.BoolOp .And (b :: rest) pos) (TB K ct W tb)) : PW X (.BoolOp .And (a :: b :: rest) pos) (TB K ct W (tAn ta tb)) := (pw_and ha hb).imp fun _ _ _ => w_an
theorem pp_woo {rest : List Expr} (ha : PT X a (TB K ct W ta)) (hb : PW X (.BoolOp .Or (b :: rest) pos) (TB K ct W tb)) : PW X (.BoolOp .Or (a :: b :: rest) pos) (TB K ct W (tOo ta tb)) := (pw_or ha hb).imp fun _ _ _ => w_oo
/-- .. as values -/
def vNo (m : Ev) : Ev := bnd (tst m) fun b => vD (.bl (!b))
def vAn (m n : Ev) : Ev := bnd (tst m) fun b => if b then bnd (dat n) vD else vD (.bl false)
def vOo (m n : Ev) : Ev := bnd (tst m) fun b => if b then vD (.bl true) else bnd (dat n) vD
def vIf (t : M Bool) (m n : Ev) : Ev := bnd t fun b => if b then m else n
theorem Tat.tstT {δ γ : Type} {R' : Rel3 δ γ} {m : Ev} {k : Bool → M γ} {Q : δ → Hp → Prop} {Q1 : V → Hp → Prop} (h : Tat K ct R' W fr F ρ (PL.bnd (PL.tst m) k) σ Q)
    (hq : ∀ F1 H1 ρ1 b, Same F F1 → Rel K ct fr F1 H1 σ ρ1 → Tat K ct R' W fr F1 ρ1 (k b) σ Q → Q1 (.bl b) H1) : Tat K ct (RV K ct.ad) W fr F ρ m σ Q1 := by
  have e : PL.bnd (PL.tst m) k = PL.bnd (PL.dat m) fun x => match x with | .bl b => k b | _ => fai := by
    funext ρ
    unfold PL.tst PL.bnd
    cases em : PL.dat m ρ with
    | none => rfl
    | some x =>
      obtain ⟨r1, ρ1⟩ := x
      cases r1 with
      | ok a => cases a <;> rfl
      | er c pl => rfl
  rw [e] at h
  refine h.datT fun F1 H1 ρ1 v d s1 S1 r1 h => ?_
  cases d with
  | bl b =>
    cases r1
    exact hq F1 H1 ρ1 b s1 S1 h
  | _ => obtain ⟨_, _, e, _⟩ := h; cases e
theorem Tat.tst {δ γ : Type} {R' : Rel3 δ γ} {m : Ev} {k : Bool → M γ} {Q : δ → Hp → Prop} {Q1 : V → Hp → Prop} (h : Tat K ct R' W fr F ρ (PL.bnd (PL.tst m) k) σ Q) (S : Rel K ct fr F H σ ρ)
    (hq : ∀ F1 H1 ρ1 b, Same F F1 → Rel K ct fr F1 H1 σ ρ1 → Tat K ct R' W fr F1 ρ1 (k b) σ Q → Q1 (.bl b) H1) : T K ct (RV K ct.ad) W m σ H Q1 := ⟨fr, F, ρ, S, h.tstT hq⟩
theorem w_vno {Q : VK} (h : TP K ct W (vNo fa) σ H Q) : tNotV (TP K ct W fa) σ H Q := by
  obtain ⟨fr, F, ρ, S, h⟩ := h
  exact h.tst S fun F1 H1 ρ1 b s1 S1 h => ⟨b, rfl, h.ok _ F1 H1 (Same.refl _) S1 (Rp.bl _)⟩
theorem w_van {Q : VK} (h : TP K ct W (vAn fa fb) σ H Q) : tAndV (TP K ct W fa) (TP K ct W fb) σ H Q := by
  obtain ⟨fr, F, ρ, S, h⟩ := h
  refine h.tst S fun F1 H1 ρ1 b s1 S1 h => ⟨b, rfl, ?_⟩
  cases b with
  | true =>
    rw [if_pos rfl]
    have h : Tat K ct (RV K ct.ad) W fr F1 ρ1 (bnd (dat fb) vD) σ Q := h
    exact h.dat S1 fun F2 H2 ρ2 v d s2 S2 r2 h => h.ok _ F2 H2 (Same.refl _) S2 r2
  | false =>
    (rw [if_neg Bool.false_ne_true])
    exact Tat.ok (a := Rv.d (.bl false)) h _ F1 H1 (Same.refl _) S1 (Rp.bl _)
theorem w_voo {Q : VK} (h : TP K ct W (vOo fa fb) σ H Q) : tOrV (TP K ct W fa) (TP K ct W fb) σ H Q := by
  obtain ⟨fr, F, ρ, S, h⟩ := h
  refine h.tst S fun F1 H1 ρ1 b s1 S1 h => ⟨b, rfl, ?_⟩
  cases b with
  | false =>
    (rw [if_neg Bool.false_ne_true])
    have h : Tat K ct (RV K ct.ad) W fr F1 ρ1 (bnd (dat fb) vD) σ Q := h
    exact h.dat S1 fun F2 H2 ρ2 v d s2 S2 r2 h => h.ok _ F2 H2 (Same.refl _) S2 r2
  | true =>
    rw [if_pos rfl]
    exact Tat.ok (a := Rv.d (.bl true)) h _ F1 H1 (Same.refl _) S1 (Rp.bl _)
theorem w_vif {Q : VK} (h : TP K ct W (vIf ta fa fb) σ H Q) : tIf (TB K ct W ta) (TP K ct W fa) (TP K ct W fb) σ H Q := by
  obtain ⟨fr, F, ρ, S, h⟩ := h
  refine h.bnd S fun F1 H1 ρ1 v b s1 S1 r1 h => ?_
  cases r1
  cases v with
  | true => rw [if_pos rfl]; exact h.to S1
  | false => rw [if_neg Bool.false_ne_true]; exact h.to S1
theorem pp_vno (h : PE X a (TP K ct W fa)) : PE X (.UnaryOp .Not a pos) (TP K ct W (vNo fa)) := (pe_not h).imp fun _ _ _ => w_vno
theorem pp_van {rest : List Expr} (ha : PE X a (TP K ct W fa)) (hb : PE X (.BoolOp .And (b :: rest) pos) (TP K ct W fb)) : PE X (.BoolOp .And (a :: b :: rest) pos) (TP K ct W (vAn fa fb)) := (pe_and ha hb).imp fun _ _ _ => w_van
theorem pp_voo {rest : List Expr} (ha : PE X a (TP K ct W fa)) (hb : PE X (.BoolOp .Or (b :: rest) pos) (TP K ct W fb)) : PE X (.BoolOp .Or (a :: b :: rest) pos) (TP K ct W (vOo fa fb)) := (pe_or ha hb).imp fun _ _ _ => w_voo
theorem pp_vif (hc : PT X c (TB K ct W ta)) (ha : PE X a (TP K ct W fa)) (hb : PE X b (TP K ct W fb)) : PE X (.IfExp c a b pos) (TP K ct W (vIf ta fa fb)) := (pe_ifExp hc ha hb).imp fun _ _ _ => w_vif
/-! a op b op' c -/
def ch2 (g g' : D → D → Option D) (a b c : Ev) : Ev := bnd (dat a) fun x => bnd (dat b) fun y => bnd (opt (g x y)) fun z => match z with
  | .bl true => bnd (dat c) fun u => opt ((g' y u).map Rv.d)
  | .bl false => vD (.bl false)
  | _ => fai
theorem Tat.optb {δ γ : Type} {R' : Rel3 δ γ} {o : Option D} {k : D → M γ} {Q : δ → Hp → Prop} (h : Tat K ct R' W fr F ρ (PL.bnd (PL.opt o) k) σ Q) : ∃ z, o = some z ∧ Tat K ct R' W fr F ρ (k z) σ Q := by
  cases o with
  | none => obtain ⟨_, _, e, _⟩ := h; cases e
  | some z => exact ⟨z, rfl, h⟩
theorem w_ch2 {r r' : R2} {g g' : D → D → Option D} (O : O2 K ct.ad r g) (O' : O2 K ct.ad r' g') {Q : VK} (h : TP K ct W (ch2 g g' fa fb fc) σ H Q) : tChain r r' (TP K ct W fa) (TP K ct W fb) (TP K ct W fc) σ H Q := by
  obtain ⟨fr, F, ρ, S, h⟩ := h
  refine h.dat S fun F1 H1 ρ1 v d s1 S1 r1 h => ?_
  refine h.dat S1 fun F2 H2 ρ2 u e s2 S2 r2 h => ?_
  obtain ⟨z, e1, h⟩ := h.optb
  refine O S2.fh (r1.mono s2) r2 e1 fun w rw_ => ?_
  cases z with
  | bl k =>
    cases rw_
    refine ⟨k, rfl, ?_⟩
    cases k with
    | false =>
      (rw [if_neg Bool.false_ne_true])
      exact Tat.ok (a := Rv.d (.bl false)) h _ F2 H2 (Same.refl _) S2 (Rp.bl _)
    | true =>
      rw [if_pos rfl]
      refine Tat.dat (k := fun w => opt ((g' e w).map Rv.d)) h S2 fun F3 H3 ρ3 v3 d3 s3 S3 r3 h => ?_
      obtain ⟨y, e3, q⟩ := h.opt
      obtain ⟨y', e4, rfl⟩ := map_some e3
      exact O' S3.fh (r2.mono s3) r3 e4 fun w' rw' => q w' F3 H3 (Same.refl _) S3 rw'
  | _ => obtain ⟨_, _, e, _⟩ := h; cases e
theorem pp_ch2 {op op' : CmpOp} {r r' : R2} {g g' : D → D → Option D} (ho : OpR X (compareOp op) r) (ho' : OpR X (compareOp op') r') (O : O2 K ct.ad r g) (O' : O2 K ct.ad r' g') (ha : PE X a (TP K ct W fa)) (hb : PE X b (TP K ct W fb)) (hc : PE X c (TP K ct W fc))
    (hm : lastMarks [op, op'] [b, c] = false := by with_unfolding_all rfl) : PE X (.Compare a [op, op'] [b, c] pos) (TP K ct W (ch2 g g' fa fb fc)) := (pe_chain ho ho' ha hb hc hm).imp fun _ _ _ => w_ch2 O O'
theorem pp_tch2 {op op' : CmpOp} {r r' : R2} {g g' : D → D → Option D} (ho : OpR X (compareOp op) r) (ho' : OpR X (compareOp op') r') (O : O2 K ct.ad r g) (O' : O2 K ct.ad r' g') (ha : PE X a (TP K ct W fa)) (hb : PE X b (TP K ct W fb)) (hc : PE X c (TP K ct W fc))
    (hm : lastMarks [op, op'] [b, c] = false := by with_unfolding_all rfl) : PT X (.Compare a [op, op'] [b, c] pos) (TB K ct W (tst (ch2 g g' fa fb fc))) := by
  refine (pt_chain ho ho' ha hb hc hm).imp fun σ H Q h => ?_
  exact w_ch2 O O' (w_t h)
end
end PL
end
section
namespace PL
open PySem PySem.Spec PyProof.Rows L2
variable {K : PySem.W.Frag} {ad : Cl → Addr} {ct : CT}
variable {fr : Fr} {F F' H H' : Hp} {σ : L2.St} {ρ : List Sl} {W : WX}
/-- a tuple's sum -/
def rCatD (K : PySem.W.Frag) : R2 := rCatA K
/-! ### fields -/
theorem look_zip {f : Str} : ∀ {ks : List Str} {vs : List V} {i : Nat}, ks.length = vs.length → ks.findIdx? (fun k => f == k) = some i → (ks.zip vs).lookup f = vs[i]?
  | [], _, _, _, h =>
    by simp at h
  | k :: ks, [], _, l, _ => by simp at l
  | k :: ks, v :: vs, i, l, h => by
    rw [List.zip_cons_cons, List.lookup_cons]
    rw [List.findIdx?_cons] at h
    cases e : f == k with
    | true =>
      rw [e] at h
      cases h
      rfl
    | false =>
      rw [e] at h
      have h : Option.map (fun i => i + 1) (ks.findIdx? (fun k => f == k)) = some i := h
      obtain ⟨j, h1, rfl⟩ := map_some h
      rw [look_zip (by simpa using l) h1]
      rfl
theorem look_no {f : Str} : ∀ {ks : List Str} {vs : List V}, ks.findIdx? (fun k => f == k) = none → (ks.zip vs).lookup f = none
  | [], _, _ => by simp
  | k :: ks, [], _ => by simp
  | k :: ks, v :: vs, h => by
    rw [List.zip_cons_cons, List.lookup_cons]
    rw [List.findIdx?_cons] at h
    cases e : f == k with
    | true => rw [e] at h; cases h
    | false =>
      rw [e] at h
      have h : Option.map (fun i => i + 1) (ks.findIdx? (fun k => f == k)) = none := h
      cases e2 : ks.findIdx? (fun k => f == k) with
      | none => exact look_no e2
      | some j => rw [e2] at h; cases h
def dFld (c : Cl) (i : Nat) : D → Option D | .obj c' xs => if c' = c then xs[i]? else none | _ => none
theorem pp_fld {X : Cx} {e : Expr} {fe : Ev} {f : Str} {pos : Pos} (c : Cl) (i : Nat) (eK : X.K = K) (hc : Cls K (ct.ad c)) (hn : NoAttr K (ct.ad c) f) (he : PE X e (TP K ct W fe)) (hi : c.fn.findIdx? (fun k => f == k) = some i := by decide)
    (hb : attributeBase e f X.env (eval e X.env) = eval e X.env := by rfl) : PE X (.Attribute e f pos) (TP K ct W (ev1 (dFld c i) fe)) := by
  subst eK
  refine (pe_fld he hb).imp fun σ H Q h => ?_
  obtain ⟨fr, F, ρ, S, h⟩ := h
  refine h.dat S fun F1 H1 ρ1 v d s1 S1 r1 h => ?_
  obtain ⟨z, e1, q⟩ := h.opt
  obtain ⟨y, e2, rfl⟩ := map_some e1
  cases d <;> try cases e2
  rename_i c' xs
  cases r1 with
  | @obj p dx _ vs _ h1 l1 k1 =>
    have e3 : (if c' = c then xs[i]? else none) = some y := e2
    clear e2
    split at e3
    · rename_i ec
      subst ec
      obtain ⟨v, hv, rv⟩ := k1.get e3
      exact ⟨p, ct.ad c', dx, _, v, rfl, S1.fh _ _ h1, hc, hn, by rw [look_zip l1 hi, hv], q v F1 H1 (Same.refl _) S1 rv⟩
    · cases e3
/-! ### subscripts -/
def dIx : D → D → Option D
  | .lst xs, .int i => atI xs i | .sq xs, .int i => atI xs i | .tup xs, .int i => atI xs i
  | .str z, .int i => if z.length ≤ 16777216 then (atI z.cps.toList i).map fun c => .str ⟨#[c]⟩ else none
  | _, _ => none
theorem Rps.atI {F : Hp} {vs : List V} {ds : List D} {i : Int} {d : D} (h : Rps K ct.ad F vs ds) (e : L2.atI ds i = some d) : ∃ v, L2.atI vs i = some v ∧ Rp K ct.ad F v d := by
  unfold L2.atI at e ⊢
  rw [h.len]
  cases q : ixN ds.length i with
  | none =>
    rw [q] at e
    cases e
  | some j =>
    rw [q] at e
    exact h.get e
theorem o_ix : O2 K ct.ad (rIx K) dIx := by
  intro F H x y d e z Q s r1 r2 e1 q
  cases d <;> cases e <;> try cases e1
  · rename_i t i
    cases r1; cases r2
    have e1 : (if t.length ≤ 16777216 then (atI t.cps.toList i).map fun c => D.str ⟨#[c]⟩ else none) = some z := e1
    split at e1
    · rename_i h
      obtain ⟨c, h1, rfl⟩ := map_some e1
      exact .inr (.inr ⟨t, i, c, rfl, rfl, h, h1, q _ (.str _)⟩)
    · cases e1
  · cases r2
    cases r1 with
    | tup h k => obtain ⟨v, h1, h2⟩ := k.atI e1; exact .inr (.inl ⟨_, _, _, v, rfl, rfl, sameT s h, h1, q v h2⟩)
  · cases r2
    cases r1 with
    | lst h k => obtain ⟨v, h1, h2⟩ := k.atI e1; exact .inl ⟨_, _, _, v, rfl, rfl, SqL.of (s _ _ h), h1, q v h2⟩
  · cases r2
    cases r1 with
    | sq h k => obtain ⟨v, h1, h2⟩ := k.atI e1; exact .inl ⟨_, _, _, v, rfl, rfl, s.seq h, h1, q v h2⟩
theorem ix_seqK {X : Cx} (eK : X.K = K) : IxR X (rIx K) := by subst eK; exact ix_seq
theorem pp_ix {X : Cx} {a b : Expr} {fa fb : Ev} {pos : Pos} (eK : X.K = K) (ha : PE X a (TP K ct W fa)) (hb : PE X b (TP K ct W fb)) (hs : PlainIx b) : PE X (.Subscript a b pos) (TP K ct W (ev2 dIx fa fb)) := (pe_ix (ix_seqK eK) ha hb hs).imp fun _ _ _ => w_2 o_ix
/-! slices -/
def cut {α : Type} (xs : List α) (lo hi : Option Int) : List α := (xs.drop (HT.sIx xs.length 0 lo)).take (HT.sIx xs.length xs.length hi - HT.sIx xs.length 0 lo)
theorem Rps.cut {F : Hp} {vs : List V} {ds : List D} (h : Rps K ct.ad F vs ds) (lo hi : Option Int) : Rps K ct.ad F (cutV vs lo hi) (PL.cut ds lo hi) := by
  unfold cutV PL.cut
  rw [h.len]
  exact (h.drop _).take _
def dPart : Option Ev → M (Option Int)
  | none => pur none
  | some m => bnd (dat m) fun d => match d with | .int i => pur (some i) | _ => fai
def RO : Rel3 (Option Int) (Option Int) := fun _ _ _ _ _ a b => a = b
theorem pp_pn {X : Cx} : PO X none (T K ct RO W (dPart none)) := po_none.imp fun σ H Q h => by
  obtain ⟨fr, F, ρ, S, h⟩ := h
  exact Tat.ok (a := (none : Option Int)) h none F H (Same.refl _) S rfl
theorem pp_ps {X : Cx} {e : Expr} {m : Ev} (h : PE X e (TP K ct W m)) : PO X (some e) (T K ct RO W (dPart (some m))) := (po_some h).imp fun σ H Q h => by
  obtain ⟨fr, F, ρ, S, h⟩ := h
  refine Tat.dat h S fun F1 H1 ρ1 v d s1 S1 r1 h => ?_
  cases d with
  | int i =>
    cases r1
    exact ⟨i, rfl, Tat.ok (a := some i) h (some i) F1 H1 (Same.refl _) S1 rfl⟩
  | _ => obtain ⟨_, _, e, _⟩ := h; cases e
def evSl (m : Ev) (lo hi : Option Ev) : Ev := bnd (dat m) fun x => bnd (dPart lo) fun l => bnd (dPart hi) fun u => match x with
  | .lst xs => pur (.c (.lst (cut xs l u)))
  | .sq xs => pur (.c (.lst (cut xs l u)))
  | .tup xs => vD (.tup (cut xs l u))
  | .str z => if z.length ≤ 16777216 then vD (.str (cutS z l u)) else fai
  | _ => fai
def rSlD (K : PySem.W.Frag) : V → Option Int → Option Int → Hp → VK → Prop := fun x lo hi H Q => rSlL K x lo hi H Q ∨ rSlA K x lo hi H Q ∨ rSlS x lo hi H Q
theorem sl_d {X : Cx} (eK : X.K = K) : L2.SlR X (rSlD K) := by subst eK; exact sl_list.or (sl_tupA.or sl_str)
theorem whole_cut {α : Type} {xs : List α} {lo hi : Option Int} (h : HT.sIx xs.length 0 lo = 0 ∧ HT.sIx xs.length xs.length hi = xs.length) : cut xs lo hi = xs := by
  unfold cut
  rw [h.1, h.2]
  simp
theorem pp_sl {X : Cx} {e : Expr} {m : Ev} {lo hi : Option Expr} {l u : Option Ev} {pos p2 : Pos} (eK : X.K = K) (he : PE X e (TP K ct W m)) (hl : PO X lo (T K ct RO W (dPart l))) (hu : PO X hi (T K ct RO W (dPart u))) :
    PE X (.Subscript e (.Slice lo hi none p2) pos) (TP K ct W (evSl m l u)) := by
  refine (pe_slice (sl_d eK) he hl hu).imp fun σ H Q h => ?_
  obtain ⟨fr, F, ρ, S, h⟩ := h
  refine Tat.dat h S fun F1 H1 ρ1 v d s1 S1 r1 h => ?_
  refine Tat.bnd h S1 fun F2 H2 ρ2 l1 l2 s2 S2 r2 h => ?_
  refine Tat.bnd h S2 fun F3 H3 ρ3 u1 u2 s3 S3 r3 h => ?_
  cases r2
  cases r3
  have s := s2.trans s3
  cases d with
  | lst xs =>
    cases r1 with
    | @lst p vs _ h1 k1 =>
      refine .inl ⟨p, vs, rfl, SqL.of (S3.fh _ _ (s _ _ h1)), fun q hq => ?_⟩
      exact Tat.ok (a := Rv.c (.lst (cut xs l1 u1))) h _ F3 _ (Same.refl _) (S3.newC hq) ⟨q, rfl, S3.fresh hq ⟨_, upd_same, (k1.mono s).cut _ _⟩⟩
  | sq xs =>
    cases r1 with
    | @sq p vs _ h1 k1 =>
      refine .inl ⟨p, vs, rfl, (s.trans S3.fh).seq h1, fun q hq => ?_⟩
      exact Tat.ok (a := Rv.c (.lst (cut xs l1 u1))) h _ F3 _ (Same.refl _) (S3.newC hq) ⟨q, rfl, S3.fresh hq ⟨_, upd_same, (k1.mono s).cut _ _⟩⟩
  | tup xs =>
    cases r1 with
    | @tup p vs _ h1 k1 =>
      refine .inr (.inl ⟨p, vs, rfl, sameT (s.trans S3.fh) h1, fun w => ?_, fun w q hq => ?_⟩)
      · refine Tat.ok (a := Rv.d (.tup (cut xs l1 u1))) h _ F3 H3 (Same.refl _) S3 ?_
        rw [k1.len] at w
        show Rp K ct.ad F3 (.ref p) (.tup (cut xs l1 u1))
        rw [whole_cut w]
        exact (Rp.tup h1 k1).mono s
      · exact Tat.ok (a := Rv.d (.tup (cut xs l1 u1))) h _ (upd F3 q (.tup (cutV vs l1 u1))) _ (same_up (S3.nn hq)) (S3.newD hq) (Rp.tup (SqT.of upd_same) (((k1.mono s).cut _ _).mono (same_up (S3.nn hq))))
  | str z =>
    cases r1
    have h : Tat K ct (RV K ct.ad) W fr F3 ρ3 (if z.length ≤ 16777216 then vD (.str (cutS z l1 u1)) else fai) σ Q := h
    split at h
    · rename_i hz
      exact .inr (.inr ⟨z, rfl, hz, Tat.ok (a := Rv.d (.str (cutS z l1 u1))) h _ F3 H3 (Same.refl _) S3 (Rp.str _)⟩)
    · obtain ⟨_, _, e, _⟩ := h; cases e
  | _ => obtain ⟨_, _, e, _⟩ := h; cases e
/-! ### displays -/
inductive DE | e (m : Ev) | s (m : Ev)
def D.items : D → Option (List D) | .lst xs => some xs | .sq xs => some xs | .tup xs => some xs | _ => none
def evDs : List DE → M (List D)
  | [] => pur []
  | .e m :: r => bnd (dat m) fun d => bnd (evDs r) fun ds => pur (d :: ds)
  | .s m :: r => bnd (dat m) fun d => bnd (opt d.items) fun xs => bnd (evDs r) fun ds => pur (xs ++ ds)
variable (K ct) in
abbrev TD (W : WX) (m : M (List D)) : TA := T K ct (RDs K ct.ad) W m
theorem pd_n {X : Cx} : PA X [] (TD K ct W (evDs [])) := pa_nil.imp fun σ H Q h => by
  obtain ⟨fr, F, ρ, S, h⟩ := h
  exact Tat.ok (a := ([] : List D)) h [] F H (Same.refl _) S Rps.nil
theorem pd_c {X : Cx} {e : Expr} {es : List Expr} {m : Ev} {r : List DE} (he : PE X e (TP K ct W m)) (hr : PA X es (TD K ct W (evDs r)))
    (hs : starEach (e :: es) X.env = (false, eval e X.env) :: starEach es X.env := by rfl) : PA X (e :: es) (TD K ct W (evDs (.e m :: r))) := (pa_cons he hr hs).imp fun σ H Q h => by
  obtain ⟨fr, F, ρ, S, h⟩ := h
  refine Tat.dat h S fun F1 H1 ρ1 v d s1 S1 r1 h => ?_
  refine Tat.bnd h S1 fun F2 H2 ρ2 vs ds s2 S2 r2 h => ?_
  exact Tat.ok (a := d :: ds) h _ F2 H2 (Same.refl _) S2 (Rps.cons (r1.mono s2) r2)
def evTup (es : List DE) : Ev := bnd (evDs es) fun ds => if ds.length ≤ 16777216 then vD (.tup ds) else fai
def evLst (es : List DE) : Ev := bnd (evDs es) fun ds => if ds.length ≤ 16777216 then pur (.c (.lst ds)) else fai
theorem pp_tup {X : Cx} {es : List Expr} {x1 : Nat} {r : List DE} {pos : Pos} (h : PA X es (TD K ct W (evDs r))) : PE X (.Tuple es x1 pos) (TP K ct W (evTup r)) := (pe_tup h).imp fun σ H Q h => by
  obtain ⟨fr, F, ρ, S, h⟩ := h
  refine Tat.bnd h S fun F1 H1 ρ1 vs ds s1 S1 r1 h => ?_
  have h : Tat K ct (RV K ct.ad) W fr F1 ρ1 (if ds.length ≤ 16777216 then vD (.tup ds) else fai) σ Q := h
  split at h
  · rename_i hz
    refine ⟨by rw [Rps.len r1]; exact hz, fun p hp => ?_⟩
    exact Tat.ok (a := Rv.d (.tup ds)) h _ (upd F1 p (.tup vs)) _ (same_up (S1.nn hp)) (S1.newD hp) (Rp.tup (SqT.of upd_same) (Rps.mono (same_up (S1.nn hp)) r1))
  · obtain ⟨_, _, e, _⟩ := h; cases e
theorem pp_lst {X : Cx} {es : List Expr} {r : List DE} {pos : Pos} (h : PA X es (TD K ct W (evDs r))) : PE X (.List es pos) (TP K ct W (evLst r)) := (pe_lst h).imp fun σ H Q h => by
  obtain ⟨fr, F, ρ, S, h⟩ := h
  refine Tat.bnd h S fun F1 H1 ρ1 vs ds s1 S1 r1 h => ?_
  have h : Tat K ct (RV K ct.ad) W fr F1 ρ1 (if ds.length ≤ 16777216 then pur (.c (.lst ds)) else fai) σ Q := h
  split at h
  · rename_i hz
    refine ⟨by rw [Rps.len r1]; exact hz, fun p hp => ?_⟩
    exact Tat.ok (a := Rv.c (.lst ds)) h _ F1 _ (Same.refl _) (S1.newC hp) ⟨p, rfl, S1.fresh hp ⟨_, upd_same, r1⟩⟩
  · obtain ⟨_, _, e, _⟩ := h; cases e
/-! ### texts that are put together -/
def dFmt : D → Option D
  | .str s => if s.length ≤ 16777216 then some (.str s) else none
  | .int i => if i.natAbs.log2 < 1920 then some (.str (toString i)) else none
  | _ => none
theorem pp_fmt {X : Cx} {e : Expr} {m : Ev} {pos : Pos} (he : PE X e (TP K ct W m)) : PE X (.FormattedValue e (-1) none pos) (TP K ct W (ev1 dFmt m)) := (pe_fmt he).imp fun σ H Q h => by
  obtain ⟨fr, F, ρ, S, h⟩ := h
  refine Tat.dat h S fun F1 H1 ρ1 v d s1 S1 r1 h => ?_
  obtain ⟨z, e1, q⟩ := h.opt
  obtain ⟨y, e2, rfl⟩ := map_some e1
  cases d with
  | str s =>
    have e2 : (if s.length ≤ 16777216 then some (D.str s) else none) = some y := e2
    split at e2
    · rename_i hz; cases e2; cases r1; exact .inl ⟨s, rfl, hz, q _ F1 H1 (Same.refl _) S1 (Rp.str _)⟩
    · cases e2
  | int i =>
    have e2 : (if i.natAbs.log2 < 1920 then some (D.str (toString i)) else none) = some y := e2
    split at e2
    · rename_i hz; cases e2; cases r1; exact .inr ⟨i, rfl, hz, q _ F1 H1 (Same.refl _) S1 (Rp.str _)⟩
    · cases e2
  | _ => cases e2
def evJs : List Ev → Str → M Str
  | [], acc => pur acc
  | m :: ms, acc => bnd (dat m) fun d => match d with | .str y => if (acc ++ y).length ≤ 16777216 then evJs ms (acc ++ y) else fai | _ => fai
variable (K ct) in
inductive PJs (X : Cx) (W : WX) : List Expr → List Ev → Prop where
  | nil : PJs X W [] []
  | cons {e : Expr} {m : Ev} {es : List Expr} {ms : List Ev} (h : PE X e (TP K ct W m)) (r : PJs X W es ms) : PJs X W (e :: es) (m :: ms)
theorem PJs.pj {X : Cx} : ∀ {es : List Expr} {ms : List Ev}, PJs K ct X W es ms → PJ X es (ms.map (TP K ct W))
  | _, _, .nil => .nil
  | _, _, .cons h r => .cons h r.pj
theorem w_js {fr : Fr} {Q : VK} : ∀ {ms : List Ev} {acc : Str} {F H : Hp} {ρ : List Sl}, Rel K ct fr F H σ ρ → Tat K ct (RV K ct.ad) W fr F ρ (bnd (evJs ms acc) fun s => vD (.str s)) σ Q → tJs (ms.map (TP K ct W)) acc σ H fun out H1 => Q (.str out) H1
  | [], acc, F, H, ρ, S, h => Tat.ok (a := Rv.d (.str acc)) h _ F H (Same.refl _) S (Rp.str _)
  | m :: ms, acc, F, H, ρ, S, h => by
    have e : bnd (evJs (m :: ms) acc) (fun s => vD (.str s)) = bnd (dat m) fun d => bnd (match d with | .str y => if (acc ++ y).length ≤ 16777216 then evJs ms (acc ++ y) else fai | _ => fai) fun s => vD (.str s) := by
      funext ρ
      show bnd (bnd (dat m) _) _ ρ = _
      unfold bnd
      cases em : dat m ρ with
      | none => rfl
      | some x =>
        obtain ⟨r1, ρ1⟩ := x
        cases r1 <;> rfl
    rw [e] at h
    refine Tat.dat h S fun F1 H1 ρ1 v d s1 S1 r1 h => ?_
    cases d with
    | str y =>
      cases r1
      have h : Tat K ct (RV K ct.ad) W fr F1 ρ1 (bnd (if (acc ++ y).length ≤ 16777216 then evJs ms (acc ++ y) else fai) fun s => vD (.str s)) σ Q := h
      split at h
      · rename_i hz
        exact ⟨y, rfl, hz, w_js S1 h⟩
      · obtain ⟨_, _, e, _⟩ := h; cases e
    | _ => obtain ⟨_, _, e, _⟩ := h; cases e
def evJn (ms : List Ev) : Ev := bnd (evJs ms Str.empty) fun s => vD (.str s)
theorem pp_joined {X : Cx} {v1 v2 : Expr} {rest : List Expr} {ms : List Ev} {pos : Pos} (h : PJs K ct X W (v1 :: v2 :: rest) ms) : PE X (.JoinedStr (v1 :: v2 :: rest) pos) (TP K ct W (evJn ms)) := (pe_joined h.pj).imp fun σ H Q h => by
  obtain ⟨fr, F, ρ, S, h⟩ := h
  exact w_js S h
def D.strs : List D → Option (List Str)
  | [] => some []
  | .str s :: r => (D.strs r).map (s :: ·)
  | _ :: _ => none
def D.ints : List D → Option (List Int)
  | [] => some []
  | .int s :: r => (D.ints r).map (s :: ·)
  | _ :: _ => none
def D.bools : List D → Option (List Bool)
  | [] => some []
  | .bl s :: r => (D.bools r).map (s :: ·)
  | _ :: _ => none
theorem D.strs_eq : ∀ {ds : List D} {ys : List Str}, D.strs ds = some ys → ds = ys.map D.str
  | [], _, h => by cases h; rfl
  | d :: ds, _, h => by
    cases d <;> try cases h
    obtain ⟨r, h1, rfl⟩ := map_some h
    rw [D.strs_eq h1]; rfl
theorem D.ints_eq : ∀ {ds : List D} {ys : List Int}, D.ints ds = some ys → ds = ys.map D.int
  | [], _, h => by cases h; rfl
  | d :: ds, _, h => by
    cases d <;> try cases h
    obtain ⟨r, h1, rfl⟩ := map_some h
    rw [D.ints_eq h1]; rfl
theorem D.bools_eq : ∀ {ds : List D} {ys : List Bool}, D.bools ds = some ys → ds = ys.map D.bl
  | [], _, h => by cases h; rfl
  | d :: ds, _, h => by
    cases d <;> try cases h
    obtain ⟨r, h1, rfl⟩ := map_some h
    rw [D.bools_eq h1]; rfl
theorem D.strs_map : ∀ ys : List Str, D.strs (ys.map D.str) = some ys
  | [] => rfl
  | y :: ys => by rw [List.map_cons, D.strs, D.strs_map ys]; rfl
theorem D.ints_map : ∀ ys : List Int, D.ints (ys.map D.int) = some ys
  | [] => rfl
  | y :: ys => by rw [List.map_cons, D.ints, D.ints_map ys]; rfl
theorem D.bools_map : ∀ ys : List Bool, D.bools (ys.map D.bl) = some ys
  | [] => rfl
  | y :: ys => by rw [List.map_cons, D.bools, D.bools_map ys]; rfl
def dJoin (a : Str) (d : D) : Option D := (d.items.bind D.strs).bind fun ys => if (ys.map (·.length)).sum + ys.length * a.length ≤ 16777216 then some (.str (Txt.join a ys)) else none
def evJoin (o e : Ev) : Ev := bnd (dat o) fun x => match x with
  | .str a => bnd (dat e) fun d => opt ((dJoin a d).map Rv.d)
  | _ => fai
/-- how items lie: a list or a tuple -/
theorem Rp.seq {F H : Hp} {v : V} {d : D} {xs : List D} (s : Same F H) (r : Rp K ad F v d) (h : d.items = some xs) : ∃ p vs, v = .ref p ∧ (SqL K H p vs ∨ SqT K H p vs) ∧ Rps K ad F vs xs := by
  cases d <;> try cases h
  · cases r with | tup h k => exact ⟨_, _, rfl, .inr (sameT s h), k⟩
  · cases r with | lst h k => exact ⟨_, _, rfl, .inl (SqL.of (s _ _ h)), k⟩
  · cases r with | sq h k => exact ⟨_, _, rfl, .inl (s.seq h), k⟩
theorem pp_join {X : Cx} {o e : Expr} {fo fe : Ev} {apos pos : Pos} (eK : X.K = K) (ho : PE X o (TP K ct W fo)) (he : PE X e (TP K ct W fe)) (hs : starEach [e] X.env = [(false, eval e X.env)] := by rfl) (hbase : attributeBase o "join" X.env (eval o X.env) = eval o X.env := by rfl) (hline : (apos.endLine == pos.line) = true := by rfl) :
    PE X (.Call (.Attribute o "join" apos) [e] [] pos) (TP K ct W (evJoin fo fe)) := (pe_join ho he hs hbase hline).imp fun σ H Q h => by
  subst eK
  obtain ⟨fr, F, ρ, S, h⟩ := h
  refine Tat.dat h S fun F1 H1 ρ1 v d s1 S1 r1 h => ?_
  have sv : ∃ a, d = .str a := by
    cases d with
    | str a => exact ⟨a, rfl⟩
    | _ => obtain ⟨_, _, e, _⟩ := h; cases e
  obtain ⟨a, rfl⟩ := sv
  cases r1
  refine ⟨⟨a, rfl⟩, ?_⟩
  refine Tat.dat h S1 fun F2 H2 ρ2 u e s2 S2 r2 h => ?_
  obtain ⟨z, e1, q⟩ := h.opt
  obtain ⟨y, e2, rfl⟩ := map_some e1
  have e2 : ((e.items.bind D.strs).bind fun ys => if (ys.map (·.length)).sum + ys.length * a.length ≤ 16777216 then some (D.str (Txt.join a ys)) else none) = some y := e2
  cases e3 : e.items with
  | none => rw [e3] at e2; cases e2
  | some xs =>
    rw [e3] at e2
    cases e4 : D.strs xs with
    | none => rw [show (Option.some xs).bind D.strs = D.strs xs from rfl, e4] at e2; cases e2
    | some ys =>
      rw [show (Option.some xs).bind D.strs = D.strs xs from rfl, e4] at e2
      have e2 : (if (ys.map (·.length)).sum + ys.length * a.length ≤ 16777216 then some (D.str (Txt.join a ys)) else none) = some y := e2
      split at e2
      · rename_i hz
        cases e2
        obtain ⟨p, vs, rfl, hp, rx⟩ := r2.seq S2.fh e3
        rw [D.strs_eq e4] at rx
        rw [rx.strs] at hp
        exact ⟨a, p, ys, rfl, rfl, hp, hz, q _ F2 H2 (Same.refl _) S2 (Rp.str _)⟩
      · cases e2
end PL
end
section
namespace PL
open PySem PySem.Spec PyProof.Rows L2
variable {K : PySem.W.Frag} {ad : Cl → Addr} {ct : CT}
variable {fr : Fr} {F F' H H' : Hp} {σ : L2.St} {ρ : List Sl} {W : WX}
/-! ### defs -/
abbrev Fn := M Rv
variable (K ad) in
def spP (n : Nat) (G : Fn) : Sp := fun vs H Q E => vs.length = n ∧ ∃ fr F ss, Rel K (cx ad) fr F H (vs.map some) ss ∧ (∀ b, (∀ j, fr.pa j ≠ some b) → fr.P b = H b) ∧ fr.F0 = F ∧ Tat K (cx ad) (RV K ad) (fun cls d _ H' => E cls d H') fr F ss G (vs.map some) Q
variable (K ct) in
def Sat (W : WX) (D : Ends) (fr : Fr) (F : Hp) (ρ : List Sl) (s : M Fl) : Prop := ∃ r ρ', s ρ = some (r, ρ') ∧ match r with
  | .ok .nx => ∀ σ' F' H', Same F F' → Rel K ct fr F' H' σ' ρ' → D.nx σ' H'
  | .ok .bk => ∀ σ' F' H', Same F F' → Rel K ct fr F' H' σ' ρ' → D.bk σ' H'
  | .ok .ct => ∀ σ' F' H', Same F F' → Rel K ct fr F' H' σ' ρ' → D.ct σ' H'
  | .ok (.rt x) => ∀ σ' v F' H', Same F F' → Rel K ct fr F' H' σ' ρ' → RV K ct.ad fr F' H' σ' ρ' v x → D.rt v H'
  | .er c pl => ∀ σ' d F' H', Same F F' → Rel K ct fr F' H' σ' ρ' → PlR K ct.ad F' c pl d → W (.ref (ct.ad c)) d σ' H'
variable (K ct) in
def TSt (W : WX) (s : M Fl) : TS := fun D σ H => ∃ fr F ρ, Rel K ct fr F H σ ρ ∧ Sat K ct W D fr F ρ s
def outs : List Sl → List Sl → List Sl
  | .dat d :: ss, ρ => .dat d :: outs ss ρ.tail
  | .cel .par c :: ss, ρ => (ρ.head?.getD .un) :: outs ss ρ.tail
  | _ :: ss, ρ => .un :: outs ss ρ.tail
  | [], _ => []
theorem outs_len : ∀ (ss ρ : List Sl), (outs ss ρ).length = ss.length
  | [], _ => rfl
  | s :: ss, ρ => by cases s <;> first | exact congrArg (· + 1) (outs_len ss _) | (rename_i k c; cases k <;> exact congrArg (· + 1) (outs_len ss _))
theorem outs_get : ∀ (ss ρ : List Sl) (i : Nat) (s : Sl), (outs ss ρ)[i]? = some s → (∃ d, ss[i]? = some (.dat d) ∧ s = .dat d) ∨ (∃ c, ss[i]? = some (.cel .par c) ∧ s = (ρ[i]?).getD .un) ∨ s = .un
  | [], _, _, _, h => by simp [outs] at h
  | x :: ss, ρ, 0, s, h => by
    cases x with
    | dat d => simp only [outs, List.getElem?_cons_zero, Option.some.injEq] at h; exact .inl ⟨d, rfl, h.symm⟩
    | cel k c =>
      cases k <;> simp only [outs, List.getElem?_cons_zero, Option.some.injEq] at h
      all_goals first
        | exact .inr (.inr h.symm)
        | (refine .inr (.inl ⟨c, rfl, ?_⟩); rw [← h]; cases ρ <;> rfl)
    | un => simp only [outs, List.getElem?_cons_zero, Option.some.injEq] at h; exact .inr (.inr h.symm)
    | exn c pl => simp only [outs, List.getElem?_cons_zero, Option.some.injEq] at h; exact .inr (.inr h.symm)
  | x :: ss, ρ, i + 1, s, h => by
    have e : (outs (x :: ss) ρ)[i + 1]? = (outs ss ρ.tail)[i]? := by
      cases x <;> first | rfl | (rename_i k c; cases k <;> rfl)
    rw [e] at h
    have t : ρ.tail[i]? = ρ[i + 1]? := by cases ρ <;> simp
    have z := outs_get ss ρ.tail i s h
    rw [t] at z
    simpa using z
theorem outs_par : ∀ (ss ρ : List Sl) (i : Nat) (c : CC), ss[i]? = some (.cel .par c) → (outs ss ρ)[i]? = some ((ρ[i]?).getD .un)
  | [], _, _, _, h =>
    by simp at h
  | x :: ss, ρ, 0, c, h => by
    (simp only [List.getElem?_cons_zero, Option.some.injEq] at h)
    subst h
    cases ρ <;> rfl
  | x :: ss, ρ, i + 1, c, h => by
    have e : (outs (x :: ss) ρ)[i + 1]? = (outs ss ρ.tail)[i]? := by
      cases x <;> first | rfl | (rename_i k c; cases k <;> rfl)
    have t : ρ.tail[i]? = ρ[i + 1]? := by cases ρ <;> simp
    rw [e, outs_par ss ρ.tail i c (by simpa using h), t]
def runB (k : Nat) (s : M Fl) : Fn := fun ss => match s (ss ++ List.replicate k .un) with
  | some (.ok .nx, ρ) => some (.ok (.d .non), outs ss ρ)
  | some (.ok (.rt r), ρ) => some (.ok r, outs ss ρ)
  | some (.er c pl, ρ) => some (.er c pl, outs ss ρ)
  | _ => none
theorem Rel.outs {fr : Fr} {F F' H H' : Hp} {vs : List V} {ss : List Sl} {σ' : L2.St} {ρ' : List Sl} (S : Rel K ct fr F H (vs.map some) ss) (S' : Rel K ct fr F' H' σ' ρ') (s : Same F F') : Rel K ct fr F' H' (vs.map some) (PL.outs ss ρ') := by
  have cl : ∀ {i : Nat} {k : CK} {c : CC}, (PL.outs ss ρ')[i]? = some (.cel k c) → ∃ c0 p, ss[i]? = some (.cel .par c0) ∧ ρ'[i]? = some (.cel k c) ∧ fr.pa i = some p ∧ (vs.map some)[i]? = some (some (.ref p)) := fun {i k c} e => by
    rcases outs_get ss ρ' i _ e with ⟨d, _, z⟩ | ⟨c0, h1, h2⟩ | z
    · cases z
    · have h3 : ρ'[i]? = some (.cel k c) := by
        cases q : ρ'[i]? with
        | none => rw [q] at h2; cases h2
        | some x => rw [q] at h2; exact congrArg some h2.symm
      obtain ⟨o, g1, p, g2, g3, g4, g5, g6, g7⟩ := S.slot i _ h1
      subst g2
      exact ⟨c0, p, h1, h3, g5 rfl, g1⟩
    · cases z
  refine ⟨by rw [outs_len]; exact S.len, S'.fh, fun i s0 e => ?_, fun i j k c k' c' p e1 e2 h1 h2 => ?_, S'.keep, S'.fro, fun i p e => ?_⟩
  · rcases outs_get ss ρ' i _ e with ⟨d, h1, rfl⟩ | ⟨c0, h1, h2⟩ | rfl
    · obtain ⟨o, g1, v, g2, g3⟩ := S.slot i _ h1
      exact ⟨o, g1, v, g2, g3.mono s⟩
    · obtain ⟨o, g1, p, g2, g3, g4, g5, g6, g7⟩ := S.slot i _ h1
      have pi := g5 rfl
      obtain ⟨k, c, q1, q2⟩ := S'.pcs i p pi
      rw [q1] at h2
      have h2 : s0 = .cel k c := h2
      subst h2
      obtain ⟨o', w1, p', w2, w3, w4, w5, w6, w7⟩ := S'.slot i _ q1
      have := w5 q2
      rw [pi] at this
      cases this
      subst g2
      exact ⟨_, g1, _, rfl, w3, w4, w5, w6, w7⟩
    · obtain ⟨l, _⟩ := List.getElem?_eq_some_iff.mp e
      rw [outs_len, ← S.len] at l
      exact ⟨_, List.getElem?_eq_getElem l, trivial⟩
  · obtain ⟨_, _, a1, _, _, _⟩ := cl e1
    obtain ⟨_, _, a2, _, _, _⟩ := cl e2
    exact S.dis i j _ _ _ _ p a1 a2 h1 h2
  · obtain ⟨k, c, h1, h2⟩ := S.pcs i p e
    obtain ⟨k', c', q1, q2⟩ := S'.pcs i p e
    have hk : k = .par := by cases k <;> simp [CK.isPar] at h2 ⊢
    subst hk
    obtain ⟨l, _⟩ := List.getElem?_eq_some_iff.mp h1
    have l2 : i < (PL.outs ss ρ').length := by rw [outs_len]; exact l
    rcases outs_get ss ρ' i _ (List.getElem?_eq_getElem l2) with ⟨d, z, _⟩ | ⟨c0, z1, z2⟩ | z
    · rw [h1] at z; cases z
    · refine ⟨k', c', ?_, q2⟩
      rw [List.getElem?_eq_getElem l2, z2, q1]; rfl
    · obtain ⟨o, g1, p', g2, g3, g4, g5, g6, g7⟩ := S.slot i _ h1
      have e2 := outs_par ss ρ' i c h1
      rw [List.getElem?_eq_getElem l2, z, q1] at e2
      cases e2
/-- the end of a body is the def's end -/
theorem body_end {n k : Nat} {s : M Fl} {vs : List V} {N : List Str} {H : Hp} {Q : VK} {E : XK} (hN : N.length = n + k) (h : spP K ad n (runB k s) vs H Q E) :
    TSt K (cx ad) (fun cls d _ H' => E cls d H') s { nx := fun _ H' => Q .non H', rt := Q } (L2.start N vs) H := by
  obtain ⟨hn, fr, F, ss, S, hP, hF, r, ss', e, q⟩ := h
  have S0 : Rel K (cx ad) fr F H (L2.start N vs) (ss ++ List.replicate k .un) := by
    have l1 : vs.length = ss.length := by have := S.len; rw [List.length_map] at this; exact this
    have ek : N.length - vs.length = k := by omega
    unfold L2.start
    rw [ek]
    have cel : ∀ {i : Nat} {k' : CK} {c : CC}, (ss ++ List.replicate k Sl.un)[i]? = some (.cel k' c) → ss[i]? = some (.cel k' c) := fun {i k' c} z => by
      by_cases l : i < ss.length
      · rw [List.getElem?_append_left l] at z; exact z
      · rw [List.getElem?_append_right (by omega), List.getElem?_replicate] at z
        split at z <;> cases z
    have get : ∀ {i : Nat}, i < ss.length → (vs.map some ++ List.replicate k (none : Option V))[i]? = (vs.map some)[i]? := fun {i} l => List.getElem?_append_left (by rw [List.length_map]; omega)
    refine ⟨by simp [l1], S.fh, fun i s0 z => ?_, fun i j k1 c k2 c' p z1 z2 z3 z4 => ?_, S.keep, S.fro, fun i p z => ?_⟩
    · by_cases l : i < ss.length
      · rw [List.getElem?_append_left l] at z
        obtain ⟨o, g1, g2⟩ := S.slot i s0 z
        exact ⟨o, by rw [get l]; exact g1, g2⟩
      · have l3 := (List.getElem?_eq_some_iff.mp z).1
        rw [List.getElem?_append_right (by omega), List.getElem?_replicate] at z
        split at z
        · cases z
          refine ⟨none, ?_, trivial⟩
          rw [List.getElem?_append_right (by rw [List.length_map]; omega), List.getElem?_replicate, if_pos (by simp at l3 ⊢; omega)]
        · cases z
    · have y1 := cel z1
      have y2 := cel z2
      rw [get (List.getElem?_eq_some_iff.mp y1).1] at z3
      rw [get (List.getElem?_eq_some_iff.mp y2).1] at z4
      exact S.dis i j _ _ _ _ p y1 y2 z3 z4
    · obtain ⟨k1, c, h1, h2⟩ := S.pcs i p z
      exact ⟨k1, c, by rw [List.getElem?_append_left (List.getElem?_eq_some_iff.mp h1).1]; exact h1, h2⟩
  refine ⟨fr, F, _, S0, ?_⟩
  unfold runB at e
  cases em : s (ss ++ List.replicate k .un) with
  | none => rw [em] at e; cases e
  | some x =>
    obtain ⟨r1, ρ1⟩ := x
    rw [em] at e
    refine ⟨r1, ρ1, em, ?_⟩
    cases r1 with
    | er c pl =>
      cases e
      exact fun σ' d F' H' s' S' pr => q d F' H' s' (S.outs S' s') pr
    | ok fl =>
      cases fl with
      | nx => cases e; exact fun σ' F' H' s' S' => q _ F' H' s' (S.outs S' s') Rp.non
      | bk => cases e
      | ct => cases e
      | rt x =>
        cases e
        intro σ' v F' H' s' S' rv
        refine q v F' H' s' (S.outs S' s') ?_
        cases x with
        | d d => exact rv
        | c c =>
          obtain ⟨p, ev, f1, f2, f3, f4, f5⟩ := rv
          refine ⟨p, ev, f1, f2, f3, f4, fun i k' c' z1 z2 => ?_⟩
          have S2 := S.outs S' s'
          obtain ⟨o, g1, p', g2, g3, g4, g5, g6, g7⟩ := S2.slot i _ z1
          rw [g1] at z2
          subst g2
          cases z2
          rcases outs_get ss ρ1 i _ z1 with ⟨d, _, w⟩ | ⟨c0, w1, w2⟩ | w
          · cases w
          · obtain ⟨o, y1, p2, y2, y3, y4, y5, y6, y7⟩ := S.slot i _ w1
            subst y2
            rw [g1] at y1
            cases y1
            exact f3 i (y5 rfl)
          · cases w
section
variable {P : Program} {w : World} {mg : Str → Option Value} {base : Heap} {x qual : Str} {st : Stmt} {f : Addr} {fd : FuncData} {N ps : List Str} {lv : Nat} {n k : Nat} {s : M Fl}
theorem okX (Fd : L2.Fun K x qual st f fd) (S : FnScope N ps (defScope st)) (hp : ps.length = n) (hN : N.length = n + k)
    (hb : ∀ (cdv : Value) (A : Around) (outer : List Env) (s0 : Shared) (H : Hp) (E : XK), Room lv (A.deeper (envOfC qual (defScope st) s0.heap.objs.size f cdv)) →
      PSs (cxOf (L2.CX P w) P w K mg base N qual (defScope st) f cdv A outer s0 H E) (defBody st) (TSt K (cx ad) (fun cls d _ H' => E cls d H') s)) : FnOk P w K mg base (L2.CX P w) (lv + 1) f fd ps (spP K ad n (runB k s)) :=
  Fd.okX S (fun vs H Q E h => by rw [hp]; exact h.1) fun cdv A outer s0 H vs Q E hr h => ⟨_, hb cdv A outer s0 H E hr, body_end hN h⟩
end
/-! ### calls -/
inductive AE | e (m : Ev) | c (j : Nat)
def evAs : List AE → M (List Ar)
  | [] => pur []
  | .e m :: r => bnd (dat m) fun d => bnd (evAs r) fun as => pur (.d d :: as)
  | .c j :: r => fun ρ => match ρ[j]? with
    | some (.cel _ _) => bnd (evAs r) (fun as => pur (.c j :: as)) ρ
    | _ => none
def argSl (ρ : List Sl) : List Ar → Option (List Sl)
  | [] => some []
  | .d d :: r => (argSl ρ r).map (.dat d :: ·)
  | .c j :: r => match ρ[j]? with
    | some (.cel _ c) => (argSl ρ r).map (.cel .par c :: ·)
    | _ => none
def celsOf : List Ar → List Nat
  | [] => []
  | .d _ :: r => celsOf r
  | .c j :: r => j :: celsOf r
def newc : List Ar → List Sl → Nat → Option CC
  | .c j :: ar, .cel _ c :: ss, i => match newc ar ss i with | some c' => some c' | none => if i = j then some c else none
  | _ :: ar, _ :: ss, i => newc ar ss i
  | _, _, _ => none
def updc (ρ : List Sl) (j : Nat) (c : CC) : List Sl := match ρ[j]? with
  | some (.cel k _) => ρ.set j (.cel k c)
  | _ => ρ
def back (ρ : List Sl) : List Ar → List Sl → List Sl
  | .c j :: ar, .cel _ c :: ss => back (updc ρ j c) ar ss
  | _ :: ar, _ :: ss => back ρ ar ss
  | _, _ => ρ
def callG (n : Nat) (G : Fn) (ar : List Ar) : Ev := fun ρ => match argSl ρ ar with
  | none => none
  | some ss => if ar.length = n ∧ (celsOf ar).Nodup then match G ss with
      | none => none
      | some (r, ss') => some (r, back ρ ar ss')
    else none
def evCall (n : Nat) (G : Fn) (as : List AE) (ds : List D := []) : Ev := bnd (evAs as) fun ar => callG n G (ar ++ ds.map .d)
/-- a result that is no exception -/
def noEr {α : Type} (m : M α) : M α := fun ρ => match m ρ with | some (.ok a, ρ') => some (.ok a, ρ') | _ => none
theorem updc_get (ρ : List Sl) (j : Nat) (c : CC) (i : Nat) : (updc ρ j c)[i]? = (ρ[i]?).map fun s => match s with | .cel k c0 => .cel k (if i = j then c else c0) | s => s := by
  unfold updc
  split
  · rename_i k c0 h
    by_cases q : j = i
    · subst q
      rw [List.getElem?_set_self (List.getElem?_eq_some_iff.mp h).1, h]
      simp
    · rw [List.getElem?_set_ne q]
      cases e : ρ[i]? with
      | none => rfl
      | some s => cases s <;> simp [show ¬ i = j from fun z => q z.symm]
  · rename_i h
    cases e : ρ[i]? with
    | none => rfl
    | some s =>
      cases s <;> try rfl
      rename_i k c0
      by_cases q : i = j
      · subst q
        exact absurd e (h _ _)
      · simp [q]
theorem back_get : ∀ (ar : List Ar) (ss ρ : List Sl) (i : Nat), (back ρ ar ss)[i]? = (ρ[i]?).map fun s => match s with | .cel k c0 => .cel k ((newc ar ss i).getD c0) | s => s
  | [], ss, ρ, i => by
    cases e : ρ[i]? with
    | none => simp [back, e]
    | some s => cases s <;> simp [back, e, newc]
  | a :: ar, [], ρ, i => by
    cases e : ρ[i]? with
    | none => cases a <;> simp [back, e]
    | some s => cases a <;> cases s <;> simp [back, e, newc]
  | .d d :: ar, s :: ss, ρ, i => by
    rw [show back ρ (.d d :: ar) (s :: ss) = back ρ ar ss from rfl, back_get ar ss ρ i]
    rfl
  | .c j :: ar, s :: ss, ρ, i => by
    cases s with
    | cel k c =>
      rw [show back ρ (.c j :: ar) (.cel k c :: ss) = back (updc ρ j c) ar ss from rfl, back_get ar ss _ i, updc_get]
      cases e : ρ[i]? with
      | none => rfl
      | some s =>
        cases s <;> try rfl
        rename_i k0 c0
        simp only [Option.map_some, newc]
        cases newc ar ss i with
        | some c' => rfl
        | none => by_cases q : i = j <;> simp [q]
    | _ => rw [show back ρ (.c j :: ar) (_ :: ss) = back ρ ar ss from rfl, back_get ar ss ρ i]; rfl
theorem newc_some : ∀ {ar : List Ar} {ss : List Sl} {i : Nat} {c : CC}, newc ar ss i = some c → ∃ (q : Nat) (k : CK), ar[q]? = some (Ar.c i) ∧ ss[q]? = some (Sl.cel k c)
  | [], _, _, _, h => by simp [newc] at h
  | .d _ :: _, [], _, _, h => by simp [newc] at h
  | .c _ :: _, [], _, _, h => by simp [newc] at h
  | .d d :: ar, s :: ss, i, c, h => by
    have h : newc ar ss i = some c := h
    obtain ⟨q, k, h1, h2⟩ := newc_some h
    exact ⟨q + 1, k, by simpa using h1, by simpa using h2⟩
  | .c j :: ar, s :: ss, i, c, h => by
    have back' : newc ar ss i = some c → ∃ (q : Nat) (k : CK), (Ar.c j :: ar)[q]? = some (Ar.c i) ∧ (s :: ss)[q]? = some (Sl.cel k c) := fun h => by
      obtain ⟨q, k, h1, h2⟩ := newc_some h
      exact ⟨q + 1, k, by simpa using h1, by simpa using h2⟩
    cases s with
    | cel k c0 =>
      cases en : newc ar ss i with
      | some c' =>
        have h2 : (match newc ar ss i with | some c' => some c' | none => if i = j then some c0 else none) = some c := h
        rw [en] at h2
        exact back' (en.trans h2)
      | none =>
        have h2 : (match newc ar ss i with | some c' => some c' | none => if i = j then some c0 else none) = some c := h
        rw [en] at h2
        have h3 : (if i = j then some c0 else none) = some c := h2
        by_cases q : i = j
        · rw [if_pos q] at h3
          cases h3
          exact ⟨0, k, by rw [q]; rfl, rfl⟩
        · rw [if_neg q] at h3
          cases h3
    | _ => exact back' h
theorem newc_of : ∀ {ar : List Ar} {ss : List Sl} {i q : Nat} {k : CK} {c : CC}, ar[q]? = some (.c i) → ss[q]? = some (.cel k c) → ∃ c', newc ar ss i = some c'
  | [], _, _, _, _, _, h, _ =>
    by simp at h
  | _ :: _, [], _, _, _, _, _, h =>
    by simp at h
  | a :: ar, s :: ss, i, 0, k, c, h1, h2 => by
    simp only [List.getElem?_cons_zero, Option.some.injEq] at h1 h2
    subst h1 h2
    show ∃ c', (match newc ar ss i with | some c' => some c' | none => if i = i then some c else none) = some c'
    split
    · exact ⟨_, rfl⟩
    · exact ⟨c, by simp⟩
  | a :: ar, s :: ss, i, q + 1, k, c, h1, h2 => by
    obtain ⟨c', e⟩ := newc_of (ar := ar) (ss := ss) (i := i) (q := q) (by simpa using h1) (by simpa using h2)
    cases a with
    | d d => exact ⟨c', e⟩
    | c j =>
      cases s with
      | cel k0 c0 =>
        show ∃ c', (match newc ar ss i with | some c' => some c' | none => if i = j then some c0 else none) = some c'
        rw [e]
        exact ⟨c', rfl⟩
      | _ => exact ⟨c', e⟩
theorem argSl_len {ρ : List Sl} : ∀ {ar : List Ar} {ss : List Sl}, argSl ρ ar = some ss → ss.length = ar.length
  | [], _, h => by cases h; rfl
  | .d d :: r, _, h => by
    obtain ⟨s, h1, rfl⟩ := map_some h
    exact congrArg (· + 1) (argSl_len h1)
  | .c j :: r, _, h => by
    unfold argSl at h
    split at h
    · obtain ⟨s, h1, rfl⟩ := map_some h
      exact congrArg (· + 1) (argSl_len h1)
    · cases h
theorem argSl_get {ρ : List Sl} : ∀ {ar : List Ar} {ss : List Sl} {i : Nat}, argSl ρ ar = some ss → i < ar.length → (∃ d, ar[i]? = some (.d d) ∧ ss[i]? = some (.dat d)) ∨ ∃ j k c, ar[i]? = some (.c j) ∧ ρ[j]? = some (.cel k c) ∧ ss[i]? = some (.cel .par c)
  | [], _, _, _, l =>
    by simp at l
  | .d d :: r, _, i, h, l => by
    obtain ⟨s, h1, rfl⟩ := map_some h
    cases i with
    | zero => exact .inl ⟨d, rfl, rfl⟩
    | succ i => simpa using argSl_get (i := i) h1 (by simpa using l)
  | .c j :: r, _, i, h, l => by
    unfold argSl at h
    split at h
    · rename_i k c e
      obtain ⟨s, h1, rfl⟩ := map_some h
      cases i with
      | zero => exact .inr ⟨j, k, c, rfl, e, rfl⟩
      | succ i => simpa using argSl_get (i := i) h1 (by simpa using l)
    · cases h
theorem celsOf_inj : ∀ {ar : List Ar} {p q j : Nat}, (celsOf ar).Nodup → ar[p]? = some (.c j) → ar[q]? = some (.c j) → p = q := by
  intro ar
  have mem : ∀ {ar : List Ar} {q j : Nat}, ar[q]? = some (.c j) → j ∈ celsOf ar := by
    intro ar
    induction ar with
    | nil => intro q j h; simp at h
    | cons a ar ih =>
      intro q j h
      cases q with
      | zero => simp only [List.getElem?_cons_zero, Option.some.injEq] at h; subst h; exact List.mem_cons_self
      | succ q =>
        have z := ih (q := q) (by simpa using h)
        cases a with
        | d _ => exact z
        | c _ => exact List.mem_cons_of_mem _ z
  induction ar with
  | nil => intro p q j _ h; simp at h
  | cons a ar ih =>
    intro p q j nd h1 h2
    cases a with
    | d _ =>
      cases p with
      | zero => simp at h1
      | succ p =>
        cases q with
        | zero => simp at h2
        | succ q => rw [ih nd (p := p) (q := q) (by simpa using h1) (by simpa using h2)]
    | c j0 =>
      have nd : (j0 :: celsOf ar).Nodup := nd
      rw [List.nodup_cons] at nd
      cases p with
      | zero =>
        cases q with
        | zero => rfl
        | succ q =>
          simp only [List.getElem?_cons_zero, Option.some.injEq, Ar.c.injEq] at h1
          subst h1
          exact absurd (mem (q := q) (by simpa using h2)) nd.1
      | succ p =>
        cases q with
        | zero =>
          simp only [List.getElem?_cons_zero, Option.some.injEq, Ar.c.injEq] at h2
          subst h2
          exact absurd (mem (q := p) (by simpa using h1)) nd.1
        | succ q => rw [ih nd.2 (p := p) (q := q) (by simpa using h1) (by simpa using h2)]
theorem RAs.get {F : Hp} {σ : L2.St} : ∀ {vs : List V} {as : List Ar} {i : Nat} {a : Ar}, RAs K ct.ad F σ vs as → as[i]? = some a → ∃ v, vs[i]? = some v ∧ RA1 K ct.ad F σ v a
  | _, _, _, _, .nil, e =>
    by simp at e
  | _, _, 0, _, .cons h _, e => by simp at e; subst e; exact ⟨_, rfl, h⟩
  | _, _, i + 1, a, .cons _ t, e => by
    obtain ⟨v, h1, h2⟩ := RAs.get (i := i) (a := a) t (by simpa using e)
    exact ⟨v, by simpa using h1, h2⟩
theorem RAs.len {F : Hp} {σ : L2.St} : ∀ {vs : List V} {as : List Ar}, RAs K ct.ad F σ vs as → vs.length = as.length
  | _, _, .nil => rfl
  | _, _, .cons _ r => congrArg (· + 1) r.len
open Classical in
/-- the frame of a call -/
noncomputable def callFr (F H : Hp) (σ : L2.St) (ar : List Ar) : Fr :=
  let pa : Nat → Option Addr := fun i => match ar[i]? with
    | some (.c j) => (match σ[j]? with | some (some (.ref p)) => some p | _ => none)
    | _ => none
  ⟨fun b => if ∃ i, pa i = some b then none else H b, F, pa⟩
theorem callFr_pa {F H : Hp} {σ : L2.St} {ar : List Ar} {i p : Nat} (h : (callFr F H σ ar).pa i = some p) : ∃ j, ar[i]? = some (.c j) ∧ σ[j]? = some (some (.ref p)) := by
  have h : (match ar[i]? with | some (.c j) => (match σ[j]? with | some (some (.ref p)) => some p | _ => none) | _ => none) = some p := h
  split at h
  · rename_i j e
    split at h
    · rename_i q e2; cases h; exact ⟨j, e, e2⟩
    · cases h
  · cases h
theorem callFr_of {F H : Hp} {σ : L2.St} {ar : List Ar} {i j p : Nat} (h : ar[i]? = some (.c j)) (h2 : σ[j]? = some (some (.ref p))) : (callFr F H σ ar).pa i = some p := by
  show (match ar[i]? with | some (.c j) => (match σ[j]? with | some (some (.ref p)) => some p | _ => none) | _ => none) = some p
  rw [h]
  show (match σ[j]? with | some (some (.ref p)) => some p | _ => none) = some p
  rw [h2]
open Classical in
theorem callFr_P {F H : Hp} {σ : L2.St} {ar : List Ar} {b : Addr} (h : ∀ i, (callFr F H σ ar).pa i ≠ some b) : (callFr F H σ ar).P b = H b := by
  show (if ∃ i, (callFr F H σ ar).pa i = some b then none else H b) = H b
  exact if_neg (fun ⟨i, e⟩ => h i e)
open Classical in
theorem callFr_N {F H : Hp} {σ : L2.St} {ar : List Ar} {b : Addr} {i : Nat} (h : (callFr F H σ ar).pa i = some b) : (callFr F H σ ar).P b = none := by
  show (if ∃ i, (callFr F H σ ar).pa i = some b then none else H b) = none
  exact if_pos ⟨i, h⟩
/-- into a call -/
theorem Rel.enter {vs : List V} {ar : List Ar} {ss : List Sl} (S : Rel K ct fr F H σ ρ) (r : RAs K ct.ad F σ vs ar) (e : argSl ρ ar = some ss) (nd : (celsOf ar).Nodup) : Rel K (cx ct.ad) (callFr F H σ ar) F H (vs.map some) ss := by
  have ls := argSl_len e
  have lv := r.len
  have cel : ∀ {i : Nat} {k : CK} {c : CC}, ss[i]? = some (.cel k c) → k = .par ∧ ∃ j k0 p, ar[i]? = some (.c j) ∧ ρ[j]? = some (.cel k0 c) ∧ σ[j]? = some (some (.ref p)) ∧ vs[i]? = some (.ref p) ∧ F p = none ∧ CelR K ct.ad F H p c := fun {i k c} z => by
    have l := (List.getElem?_eq_some_iff.mp z).1
    rcases argSl_get (i := i) e (by omega) with ⟨d, h1, h2⟩ | ⟨j, k0, c0, h1, h2, h3⟩
    · rw [z] at h2; cases h2
    · rw [z] at h3
      cases h3
      obtain ⟨v, g1, g2⟩ := r.get h1
      obtain ⟨o, q1, p, q2, q3, q4, q5, q6, q7⟩ := S.slot j _ h2
      subst q2
      have g2 : σ[j]? = some (some v) := g2
      rw [q1] at g2
      cases g2
      exact ⟨rfl, j, k0, p, h1, h2, q1, g1, q3, q7⟩
  refine ⟨by rw [List.length_map]; omega, S.fh, fun i s z => ?_, fun i i' k c k' c' p z1 z2 z3 z4 => ?_, fun b o z => ?_, fun b _ z => z, fun i p z => ?_⟩
  · have l := (List.getElem?_eq_some_iff.mp z).1
    rcases argSl_get (i := i) e (by omega) with ⟨d, h1, h2⟩ | ⟨j, k0, c0, h1, h2, h3⟩
    · rw [z] at h2
      cases h2
      obtain ⟨v, g1, g2⟩ := r.get h1
      exact ⟨some v, by rw [List.getElem?_map, g1]; rfl, v, rfl, g2⟩
    · rw [z] at h3
      cases h3
      obtain ⟨_, j', k0', p, a1, a2, a3, a4, a5, a6⟩ := cel z
      have pa := callFr_of (F := F) (H := H) a1 a3
      exact ⟨some (.ref p), by rw [List.getElem?_map, a4]; rfl, p, rfl, a5, callFr_N pa, fun _ => pa, (fun w => by cases w), a6⟩
  ·
    obtain ⟨_, j, k0, p1, a1, a2, a3, a4, _⟩ := cel z1
    obtain ⟨_, j', k0', p2, b1, b2, b3, b4, _⟩ := cel z2
    rw [List.getElem?_map, a4] at z3
    rw [List.getElem?_map, b4] at z4
    cases z3
    cases z4
    have := S.dis j j' _ _ _ _ _ a2 b2 a3 b3
    subst this
    exact celsOf_inj nd a1 b1
  · by_cases w : ∃ i, (callFr F H σ ar).pa i = some b
    · obtain ⟨i, w⟩ := w; rw [callFr_N w] at z; cases z
    · rw [callFr_P (fun i q => w ⟨i, q⟩)] at z; exact z
  · obtain ⟨j, h1, h2⟩ := callFr_pa z
    have l := (List.getElem?_eq_some_iff.mp h1).1
    rcases argSl_get (i := i) e l with ⟨d, g1, g2⟩ | ⟨j', k0, c0, g1, g2, g3⟩
    · rw [h1] at g1; cases g1
    · exact ⟨.par, c0, g3, rfl⟩
/-- out of a call -/
theorem Rel.leave {vs : List V} {ar : List Ar} {ss ss' : List Sl} (S : Rel K ct fr F H σ ρ) (r : RAs K ct.ad F σ vs ar) (e : argSl ρ ar = some ss) (s : Same F F') (R : Rel K (cx ct.ad) (callFr F H σ ar) F' H' (vs.map some) ss') :
    Rel K ct fr F' H' σ (back ρ ar ss') ∧ ∀ p c, Fresh K ct.ad (callFr F H σ ar) F' H' (vs.map some) ss' p c → Fresh K ct.ad fr F' H' σ (back ρ ar ss') p c := by
  have lv := r.len
  -- what stands at a passed cell
  have passed : ∀ {q b : Nat}, (callFr F H σ ar).pa q = some b → ∃ j k c, ar[q]? = some (.c j) ∧ σ[j]? = some (some (.ref b)) ∧ ρ[j]? = some (.cel k c) := fun {q b} z => by
    obtain ⟨j, h1, h2⟩ := callFr_pa z
    rcases argSl_get (i := q) e (List.getElem?_eq_some_iff.mp h1).1 with ⟨d, g1, g2⟩ | ⟨j', k0, c0, g1, g2, g3⟩
    · rw [h1] at g1; cases g1
    · rw [h1] at g1; cases g1; exact ⟨j, k0, c0, h1, h2, g2⟩
  have notP : ∀ {b : Addr} {o : HO}, fr.P b = some o → ∀ q, (callFr F H σ ar).pa q ≠ some b := fun {b o} z q w => by
    obtain ⟨j, k, c, h1, h2, h3⟩ := passed w
    obtain ⟨o', q1, p, q2, q3, q4, q5, q6, q7⟩ := S.slot j _ h3
    rw [q1] at h2
    cases q2
    cases h2
    rw [q4] at z
    cases z
  have bk : ∀ {i : Nat} {k : CK} {c : CC}, (back ρ ar ss')[i]? = some (.cel k c) → ∃ c0, ρ[i]? = some (.cel k c0) := fun {i k c} z => by
    rw [back_get] at z
    cases q : ρ[i]? with
    | none => rw [q] at z; cases z
    | some x =>
      rw [q] at z
      cases x <;> simp only [Option.map_some, Option.some.injEq] at z <;> try cases z
      exact ⟨_, rfl⟩
  have lenb : (back ρ ar ss').length = ρ.length := by
    have h1 : ∀ i, (back ρ ar ss')[i]? = none ↔ ρ[i]? = none := fun i => by rw [back_get]; cases ρ[i]? <;> simp
    have a := (h1 ρ.length).mpr (by simp)
    have b := (h1 (back ρ ar ss').length).mp (by simp)
    rw [List.getElem?_eq_none_iff] at a b
    omega
  refine ⟨⟨by rw [lenb]; exact S.len, R.fh, fun i s0 z => ?_, fun i j k c k' c' p z1 z2 z3 z4 => ?_, fun b o z => ?_, fun b hb h0 => ?_, fun i p z => ?_⟩, fun p c f => ?_⟩
  · rw [back_get] at z
    cases q : ρ[i]? with
    | none => rw [q] at z; cases z
    | some x =>
      rw [q] at z
      obtain ⟨o, g1, g2⟩ := S.slot i x q
      refine ⟨o, g1, ?_⟩
      cases x with
      | un => cases z; trivial
      | dat d => cases z; obtain ⟨v, a1, a2⟩ := g2; exact ⟨v, a1, a2.mono s⟩
      | exn c pl => cases z; exact ⟨g2.1, g2.2.1, g2.2.2.mono s⟩
      | cel k c0 =>
        simp only [Option.map_some, Option.some.injEq] at z
        subst z
        obtain ⟨p, a1, a2, a3, a4, a5, a6⟩ := g2
        subst a1
        cases hn : newc ar ss' i with
        | some c' =>
          obtain ⟨w, k1, h1, h2⟩ := newc_some hn
          have pa := callFr_of (F := F) (H := H) h1 g1
          obtain ⟨o1, b1, p1, b2, b3, b4, b5, b6, b7⟩ := R.slot w _ h2
          obtain ⟨k2, c2, d1, d2⟩ := R.pcs w p pa
          rw [h2] at d1
          cases d1
          have := b5 d2
          rw [pa] at this
          cases this
          exact ⟨_, rfl, b3, a3, a4, a5, b7⟩
        | none =>
          have np : ∀ w, (callFr F H σ ar).pa w ≠ some p := fun w y => by
            obtain ⟨j, k2, c2, h1, h2, h3⟩ := passed y
            have := S.dis i j _ _ _ _ p q h3 g1 h2
            subst this
            obtain ⟨k3, c3, d1, d2⟩ := R.pcs w p y
            obtain ⟨c4, d3⟩ := newc_of h1 d1
            rw [hn] at d3
            cases d3
          obtain ⟨u, hu⟩ := a6.at
          have hP : (callFr F H σ ar).P p = some u := by rw [callFr_P np, hu]
          have h' := R.keep p u hP
          have f' : F' p = none := R.fro p (by rw [hP]; simp) a2
          exact ⟨p, rfl, f', a3, a4, a5, a6.keep s (by rw [h', hu])⟩
  · obtain ⟨_, y1⟩ := bk z1
    obtain ⟨_, y2⟩ := bk z2
    exact S.dis i j _ _ _ _ p y1 y2 z3 z4
  · exact R.keep b o (by rw [callFr_P (notP z)]; exact S.keep b o z)
  · have fb := S.fro b hb h0
    cases w : fr.P b with
    | none => exact absurd w hb
    | some o => exact R.fro b (by rw [callFr_P (notP w), S.keep b o w]; simp) fb
  · obtain ⟨k, c, h1, h2⟩ := S.pcs i p z
    refine ⟨k, (newc ar ss' i).getD c, ?_, h2⟩
    rw [back_get, h1]; rfl
  · obtain ⟨f1, f2, f3, f4, f5⟩ := f
    have hp : H p = none := by rw [← callFr_P f3]; exact f2
    refine ⟨f1, S.np hp, fun j w => ?_, f4, fun i k c' z1 z2 => ?_⟩
    · obtain ⟨k, c1, h1, h2⟩ := S.pcs j p w
      obtain ⟨o, g1, p', g2, g3, g4, g5, g6, g7⟩ := S.slot j _ h1
      have := g5 h2
      rw [w] at this
      cases this
      obtain ⟨u, hu⟩ := g7.at
      rw [hp] at hu
      cases hu
    · obtain ⟨c0, y⟩ := bk z1
      obtain ⟨p', o', y1, y2⟩ := S.cell_at y
      rw [y1] at z2
      cases z2
      rw [hp] at y2
      cases y2
/-- a callee's promise at its arguments -/
theorem Tat.call {n : Nat} {G : Fn} {vs : List V} {ar : List Ar} {Q : VK} {E : XK} (h : Tat K ct (RV K ct.ad) W fr F ρ (callG n G ar) σ Q) (S : Rel K ct fr F H σ ρ) (r : RAs K ct.ad F σ vs ar) (hE : ∀ cls d H', W cls d σ H' → E cls d H') : spP K ct.ad n G vs H Q E := by
  obtain ⟨x, ρ', e, q⟩ := h
  unfold callG at e
  split at e
  · cases e
  · rename_i ss es
    split at e
    · rename_i nd0
      obtain ⟨hn, nd⟩ := nd0
      split at e
      · cases e
      · rename_i y ss' eg
        cases e
        refine ⟨by rw [r.len]; exact hn, callFr F H σ ar, F, ss, S.enter r es nd, fun b hb => callFr_P hb, rfl, x, ss', eg, ?_⟩
        cases x with
        | er c pl =>
          intro d F' H' s' R pr
          exact hE _ _ _ (q d F' H' s' (S.leave r es s' R).1 pr)
        | ok rv =>
          intro v F' H' s' R rr
          obtain ⟨z1, z2⟩ := S.leave r es s' R
          refine q v F' H' s' z1 ?_
          cases rv with
          | d d => exact rr
          | c c => obtain ⟨p, ev, fp⟩ := rr; exact ⟨p, ev, z2 p c fp⟩
    · cases e
end PL
end
section
namespace OW
open PySem PySem.Spec PyProof.Rows L2
/-- what the operators of the class at C ask -/
def rOwn2 (C : Addr) (sp : Sp) (E : XK) : R2 := fun x y H Q => ∃ a dx fs b dy gs, x = .ref a ∧ y = .ref b ∧ H a = some (.ins C dx fs) ∧ H b = some (.ins C dy gs) ∧ sp [x, y] H Q E
def rOwn1 (C : Addr) (sp : Sp) (E : XK) : V → Hp → VK → Prop := fun x H Q => ∃ a dx fs, x = .ref a ∧ H a = some (.ins C dx fs) ∧ sp [x] H Q E
section
variable {X : Cx} {CX : CXT} {k : Nat} {C f : Addr} {fd : FuncData} {ps : List Str} {sp : Sp} {E : XK}
theorem inst {pins : List (Addr × Obj)} {σ : L2.St} {H : Hp} {s : Shared} {a dx : Addr} {fs : List (Str × V)} (I : Inv X pins σ H s) (e : H a = some (.ins C dx fs)) : ∃ ox od, PySem.W.InstAt s.heap a ox C od := by
  exact let ⟨_, O, _⟩ := ins_get I.hok e; let ⟨od, J, _⟩ := O.look; ⟨_, od, J⟩
theorem un_neg {m : Str} (hm : m = "__neg__") (M : Meth X.K C m f) (F : FnOk X.prog X.w X.K X.mg X.base CX k f fd ps sp) (hr : Room k X.A) (hb : Binds X.K fd ps []) (hx : Passes CX X E) : UnR X (unaryOp .USub) (rOwn1 C sp E) := by
  intro pn s σ H x v Q I rx ⟨a, dx, fs, ex, ha, q⟩
  subst ex
  cases rx
  obtain ⟨ox, od, J⟩ := inst I ha
  obtain ⟨m', hF⟩ := I.fr
  subst hm
  refine PySem.W.ksp_neg hF I.ok.mod.kin J M.at_ M.fn ?_
  exact run_fn (us := [.ref a]) (vs := [.ref a]) F hr hb .nil hx I (.cons rfl .nil) q
/-- x in o, o of the class at C: its __contains__ gives a bool -/
def rInOwn (C : Addr) (sp : Sp) (E : XK) (neg : Bool) : R2 := fun y x H Q => ∃ a dx fs, x = .ref a ∧ H a = some (.ins C dx fs) ∧ sp [x, y] H (fun z H' => ∃ b, z = .bl b ∧ Q (.bl (if neg then !b else b)) H') E
theorem op_in {m : Str} (hm : m = "__contains__") (M : Meth X.K C m f) (F : FnOk X.prog X.w X.K X.mg X.base CX k f fd ps sp) (hr : Room k X.A) (hb : Binds X.K fd ps []) (hx : Passes CX X E) : OpR X (compareOp .In) (rInOwn C sp E false) := by
  intro pn s σ H y x v u Q I ry rx ⟨a, dx, fs, ex, ha, q⟩
  subst ex
  cases rx
  obtain ⟨ox, od, J⟩ := inst I ha
  obtain ⟨m', hF⟩ := I.fr
  subst hm
  refine PySem.W.in_K hF I.ok.mod.kin J M.at_ M.fn ?_
  refine wpAny_mono (run_fn (us := [.ref a, v]) (vs := [.ref a, y]) F hr hb .nil hx I (.cons rfl (.cons ry .nil)) q) (fun w s' z => ?_) fun _ _ x => x
  obtain ⟨z', H', I', rz, b, eb, qz⟩ := z
  subst eb
  cases (show w = Value.bool b from rz)
  exact wpAny_truthy_bool ⟨.bl b, H', I', rfl, qz⟩
end
end OW
namespace OW
open PySem PySem.Spec PyProof.Rows L2
/-- // by any divisor but 0 below 2 ^ 9000 -/
def CDivA (_ j : Int) : Prop := j ≠ 0 ∧ j.natAbs.log2 < 9000
def wInt1 : List V → Hp → VK → Prop := fun xs H Q => (∃ i, xs = [.int i] ∧ Q (.int i) H) ∨ ∃ k, xs = [.bl k] ∧ Q (.int (if k = true then 1 else 0)) H
def wAbs : List V → Hp → VK → Prop := fun xs H Q => ∃ i, xs = [.int i] ∧ Q (.int (if i < 0 then -i else i)) H
def wMax2 : List V → Hp → VK → Prop := fun xs H Q => ∃ i j, xs = [.int i, .int j] ∧ Q (.int (if j > i then j else i)) H
def wMin2 : List V → Hp → VK → Prop := fun xs H Q => ∃ i j, xs = [.int i, .int j] ∧ Q (.int (if j < i then j else i)) H
def wStrI : List V → Hp → VK → Prop := fun xs H Q => ∃ i, xs = [.int i] ∧ i.natAbs.log2 < 1920 ∧ Q (.str (toString i)) H
def wLen (K : PySem.W.Frag) : List V → Hp → VK → Prop := fun xs H Q => ∃ p ys, xs = [.ref p] ∧ (SqL K H p ys ∨ SqT K H p ys) ∧ Q (.int ys.length) H
def wLenS : List V → Hp → VK → Prop := fun xs H Q => ∃ z, xs = [.str z] ∧ z.length ≤ sizeLine ∧ Q (.int z.length) H
def wAddS : R2 := fun x y H Q => ∃ i j, x = .str i ∧ y = .str j ∧ i.length + j.length ≤ sizeLine ∧ Q (.str (i ++ j)) H
/-- isinstance of the exception that a suite holds (its class has no own __init__) -/
def rIsEE (K : PySem.W.Frag) (a : Addr) (cls : Value) (d : Option Addr) : List V → Hp → VK → Prop := fun xs H Q => ∃ (D : Addr) (c : V) (cv : Value) (b : Bool), xs = [.ref a, c] ∧ cls = .ref D ∧ (d = none ∨ ∃ dx fs, d = some dx ∧ H dx = some (.xd fs)) ∧ ExcC K D ∧ (∀ u, RelV c u → u = cv) ∧ PySem.W.kitOne K (.ref D) cv = some b ∧ Q (.bl b) H
section
variable {X : Cx}
theorem c_int1 : CallR X (.type "int") wInt1 := call_int1
theorem c_max2 (hc : X.calm = true) : CallR X (.builtin "max") wMax2 := call_max2 hc
theorem c_min2 (hc : X.calm = true) : CallR X (.builtin "min") wMin2 := call_min2 hc
theorem c_len : CallR X (.builtin "len") (wLen X.K) := call_len_seq
theorem c_lenS : CallR X (.builtin "len") wLenS := call_len_str
theorem c_isEE {a : Addr} {oe : Obj} {cls : Value} {d : Option Addr} {pn : List (Addr × Obj)} (hz : Zc cls d oe) (hf : ∃ vs, oe.data = .fields vs) : CallR (X.suite a ((a, oe) :: pn)) (.builtin "isinstance") (rIsEE X.K a cls d) := by
  intro pn s σ H xs us Q I r ⟨D, c, cv, b, ex, ec, ed, hE, hc, e, q⟩
  subst ex ec
  rcases ed with ed | ⟨dx, fs, ed, hx⟩
  · subst ed
    exact call_isE hE hz hf pn s σ H _ us Q I r ⟨c, cv, b, rfl, hc, e, q⟩
  · subst ed
    cases r with
    | cons rx rr =>
      cases rr with
      | cons rt rr =>
        cases rr
        cases rx
        have ecv := hc _ rt
        subst ecv
        (obtain ⟨hget, _⟩ := I.pin (a, oe) (List.mem_append.mpr (.inl List.mem_cons_self)))
        obtain ⟨vs, hv⟩ := hf
        have hxo : ObjOk X.prog X.w H s.heap dx (.xd fs) := I.hok dx _ hx
        obtain ⟨mA, ⟨od, _, _, hod, _⟩, _⟩ := hxo
        have J : PySem.W.InstAt s.heap a oe D (some od) := by
          obtain ⟨oc, odd, oda, osl⟩ := oe
          obtain ⟨h1, h2⟩ := hz
          dsimp only at h1 h2 hv
          subst h1 h2 hv
          exact ⟨hget, rfl, rfl, hod⟩
        have hcl : (PySem.W.clsIn X.K D).isSome = true := by
          obtain ⟨cd, hcd, _⟩ := PySem.W.any_some hE.hd
          rw [hcd]
          rfl
        exact PySem.W.kia_one (PySem.W.kitx_exc hcl hE.hg hE.hk hE.hs hE.ha hE.hn hE.ht hE.hm) I.kIn J e (fun z => nomatch z) fun tk => ⟨.bl b, H, I.kept (t' := tk) fun _ _ z => z, rfl, q⟩
end
/-- C(e, ..) in the body of a try: what its __init__ lets out meets the wish at the slots as they stand -/
def tMakeS (C : Addr) (sp : Sp) (dvs : List V) (E : L2.St → XK) (t : TA) : TE := fun σ H Q =>
  t σ H fun vs G => ∀ o d, G o = none → G d = none → d ≠ o →
    sp (.ref o :: (vs ++ dvs)) (upd (upd G d (.own o)) o (.ins C d [])) (fun v G' => v = .non ∧ Q (.ref o) G') (E σ)
section
variable {X : Cx} {CX : CXT} {k : Nat} {C f : Addr} {fd : FuncData} {ps : List Str} {sp : Sp} {ds : List Value} {dvs : List V}
/-- the new object and its dict are the heap's next two places -/
theorem run_makeS {pn : List (Addr × Obj)} {σ : L2.St} {G : Hp} {s : Shared} {Q : VK} {us : List Value} {vs : List V} {E : XK}
    (M : Mk X.K C f) (F : FnOk X.prog X.w X.K X.mg X.base CX k f fd ps sp) (room : Room (k + 1) X.A) (bd : Binds X.K fd ps ds) (vd : Vals dvs ds) (px : PassesAt CX X σ E) (I : Inv X pn σ G s) (rv : Vals vs us)
    (want : ∀ o d, G o = none → G d = none → d ≠ o → sp (.ref o :: (vs ++ dvs)) (upd (upd G d (.own o)) o (.ins C d [])) (fun v G' => v = .non ∧ Q (.ref o) G') E) :
    wpAny (model X.prog X.w) X.A (call (.ref C) us) (EP X pn σ Q) X.xe s := by
  let d := s.heap.objs.size
  let o := d + 1
  have fresh : ∀ a, d ≤ a → G a = none := fun a h => I.hok.fresh h
  have w0 := want o d (fresh o (Nat.le_succ d)) (fresh d (Nat.le_refl d)) (Nat.ne_of_lt (Nat.lt_succ_self d))
  have I1 := I.made (C := C)
  have rall : Vals (V.ref o :: (vs ++ dvs)) (Value.ref o :: (us ++ ds)) := .cons rfl (rv.append vd)
  have len : (Value.ref o :: us ++ ds).length = ps.length := rall.length.symm.trans (F.len _ _ _ _ w0)
  have body := F.run _ X.stack _ _ ⟨Value.ref o :: us, []⟩ (Value.ref o :: (us ++ ds)) _ _ E (room.make C us []) (I1.env0.make C us []) (bd _ (Value.ref o :: us) I1.kIn len) rall w0
  refine wpAny_call (make_map (f := f) I.kIn M.makes M.init (beq_iff_eq.mp M.fn) (codeAny_mono body ?_))
  rintro (er | fl) s1 h1
  · exact px pn _ _ er s1 I1 h1
  · cases fl with
    | ret u => exact let ⟨_, G1, J, ru, ev, q⟩ := I1.after h1; ⟨by subst ev; exact ru, .ref o, G1, J, rfl, q⟩
    | _ => exact h1.elim
theorem pe_makeS {E : L2.St → XK} {x : Str} {p pos : Pos} {e : Expr} {es : List Expr} {t : TA} (M : Mk X.K C f) (F : FnOk X.prog X.w X.K X.mg X.base CX k f fd ps sp) (room : Room (k + 1) X.A) (hg : Gl X x) (hm : X.mg x = some (.ref C)) (bd : Binds X.K fd ps ds) (vd : Vals dvs ds)
    (px : ∀ σ, PassesAt CX X σ (E σ)) (args : PA X (e :: es) t)
    (nd : (x == ("__debug__" : Str)) = false := by decide) (h1 : starEach (e :: es) X.env = (false, eval e X.env) :: starEach es X.env := by rfl) (h2 : (backTo pos (starEach es X.env)).any (·.1) = false := by rfl) :
    PE X (.Call (.Name x p) (e :: es) [] pos) (tMakeS C sp dvs E t) where
  run pn s σ G Q I h := by
    refine wpAny_Call_Name_kw (ld_glob I hg hm ?_ nd)
    refine PySem.W.callWith_K (h₀ := X.base) I.ok.mod.kin M.kp ?_ h1 h2
    refine thn (args.run pos pn s σ G _ I h) ?_
    rintro us s1 ⟨_, _, J, rv, q⟩
    exact ⟨J.kIn, run_makeS M F room bd vd (px σ) J rv q⟩
end
end OW
namespace OW
open PySem PySem.Spec PyProof.Rows L2
def wFmt : V → Hp → VK → Prop := fun x H Q => (∃ y : Str, x = .str y ∧ y.length ≤ sizeLine ∧ Q (.str y) H) ∨ ∃ i : Int, x = .int i ∧ i.natAbs.log2 < 1920 ∧ Q (.str (toString i)) H
end OW
namespace OW
open PySem PySem.Spec PyProof.Rows L2
section
variable {P : Program} {w : World} {K : PySem.W.Frag} {mg : Str → Option Value} {base : Heap} {x qual : Str} {st : Stmt} {dvs : List V} {kws : List (Str × V)} {f : Addr} {fd : FuncData} {N ps : List Str} {k : Nat} {sp : Sp}
/-- what is to be shown of a def's body: W its wish for exceptions -/
def BodyOk (P : Program) (w : World) (K : PySem.W.Frag) (mg : Str → Option Value) (base : Heap) (N : List Str) (qual : Str) (st : Stmt) (f : Addr) (k : Nat) (sp : Sp) (CX : CXT) (no : Bool) : Prop :=
  ∀ (cdv : Value) (A : Around) (outer : List Env) (s : Shared) (H : Hp) (vs : List V) (Q : VK) (E : XK),
    Room k (A.deeper (envOfC qual (defScope st) s.heap.objs.size f cdv)) → sp vs H Q E → ∃ t,
      (if no = true then PSs (cxOf CX P w K mg base N qual (defScope st) f cdv A outer s H E).nox (defBody st) t else PSs (cxOf CX P w K mg base N qual (defScope st) f cdv A outer s H E) (defBody st) t) ∧
      t { nx := fun _ H' => Q .non H', rt := Q } (start N vs) H
end
end OW
namespace OW
open PySem PySem.Spec PyProof.Rows L2
/-! an instance that is walked: its __iter__ gives iter(its tuple) -/
/-- the tuple's iterator at its start -/
def TIt (t it : Addr) : HO := .ext fun h => h.IsTupleIter it t 0
theorem tit_ok {P : Program} {w : World} {H : Hp} {h : Heap} {t it : Addr} (e : h.IsTupleIter it t 0) : ObjOk P w H h it (TIt t it) := by
  obtain ⟨o, ho, z⟩ := id e
  exact ⟨e, ⟨o, ho⟩, fun h1 h2 q k => q.at k⟩
/-- a def whose promise knows how many places the heap has when it is entered -/
structure FnS (P : Program) (w : World) (K : PySem.W.Frag) (mg : Str → Option Value) (base : Heap) (k : Nat) (f : Addr) (fd : FuncData) (ps : List Str) (sp : Nat → Sp) : Prop where
  len : ∀ n vs H Q E, sp n vs H Q E → vs.length = ps.length
  run : ∀ (A : Around) (outer : List Env) (s : Shared) (H : Hp) (args : Args) (us : List Value) (vs : List V) (Q : VK) (E : XK), Room k A → Env0 P w K mg base A outer s H → BindsTo s fd args (ps.zip us) → Vals vs us →
    sp s.heap.objs.size vs H Q E → codeAny (model P w) A (.call (.ref f) args) (CR CX0 outer P w H s Q E) s
theorem okS {P : Program} {w : World} {K : PySem.W.Frag} {mg : Str → Option Value} {base : Heap} {x qual : Str} {st : Stmt} {f : Addr} {fd : FuncData} {N ps : List Str} {k : Nat} {sp : Nat → Sp} (F : L2.Fun K x qual st f fd) (S : FnScope N ps (defScope st))
    (len : ∀ n vs H Q E, sp n vs H Q E → vs.length = ps.length)
    (body : ∀ (cdv : Value) (A : Around) (outer : List Env) (s : Shared) (H : Hp) (vs : List V) (Q : VK) (E : XK), Room k (A.deeper (envOfC qual (defScope st) s.heap.objs.size f cdv)) → sp s.heap.objs.size vs H Q E →
      ∃ t, PSs (cxOf CX0 P w K mg base N qual (defScope st) f cdv A outer s H E).nox (defBody st) t ∧ t { nx := fun _ G => Q .non G, rt := Q } (start N vs) H) : FnS P w K mg base (k + 1) f fd ps sp := by
  obtain ⟨oc, od, kV, doc, pm, an, cdv, ct, osl, rfl, look, code⟩ := F.ex
  refine ⟨len, fun A outer s H args us vs Q E room env0 bnd rv want => ?_⟩
  have vl := len _ _ _ _ _ want
  have KX : K.In s.heap := env0.mod.kin.keeps fun b o q => (env0.bs b o q).1
  have free : s.heap.NoLimit := env0.mod.nolimit.keeps fun b o q => (env0.bs b o q).1
  have kinds : ∀ y ∈ ps.zip us, (defScope st).names.lookup y.1 = some .local ∨ ((defScope st).names.lookup y.1 = some .cell ∧ ((cellsFrom (s.heap.objs.size + 1) (defScope st).names []).lookup y.1).isSome = true) := by
    rintro ⟨n, v⟩ hy
    rcases S.par n (List.of_mem_zip hy).1 with z | z
    · exact .inl z
    · exact .inr ⟨z, PySem.W.cellsFrom_some _ _ _ (.inl z)⟩
  refine codeAny_call_function room.depth (KX _ _ look) rfl S.co S.gen rfl (PySem.W.codeRec_of KX code) (bnd _ _ _ _ ?_)
  refine wpAny_newFunctionEnv_cells S.kind kinds fun env he s1 inn => ?_
  subst he
  refine ⟨free.keeps inn.toInCall.keep, codeAny_func ?_⟩
  obtain ⟨t, ht, q⟩ := body cdv A outer s H vs Q E (room.deeper _) want
  have J : Inv (cxOf CX0 P w K mg base N qual (defScope st) f cdv A outer s H E) [] (start N vs) H s1 := inv_start S room.hd env0 vl rv inn
  refine wpAny_mono (ht.nox.run [] s1 (start N vs) H _ J q) (fun fl s2 out => ?_) fun e s2 out => out
  have fin : ∀ {τ : L2.St} {G : Hp} {v : V} {u : Value}, Inv (cxOf CX0 P w K mg base N qual (defScope st) f cdv A outer s H E) [] τ G s2 → RelV v u → Q v G → CE outer P w H s Q u s2 :=
    fun {τ G v u} I2 r q2 => ⟨v, G, I2.os, I2.bare, I2.base, I2.hok, r, q2⟩
  cases fl with
  | ret u =>
    obtain ⟨v, τ, G, I2, r, q2⟩ := out
    exact fin I2 r q2
  | next =>
    obtain ⟨τ, G, I2, q2⟩ := out
    exact fin (v := V.non) (u := Value.none) I2 rfl q2
  | brk =>
    obtain ⟨_, _, _, z⟩ := out
    exact z.elim
  | cont =>
    obtain ⟨_, _, _, z⟩ := out
    exact z.elim
def wIterT (K : PySem.W.Frag) (n : Nat) : List V → Hp → VK → Prop := fun xs H Q => ∃ (l : Addr) (zs : List V), xs = [.ref l] ∧ SqT K H l zs ∧ ∀ it, H it = none → n ≤ it → Q (.ref it) (upd H it (TIt l it))
theorem c_iterT {X : Cx} : CallR X (.builtin "iter") (wIterT X.K X.s_0.heap.objs.size) := by
  rintro pn s σ H xs us Q I r ⟨l, zs, rfl, hq, q⟩
  (obtain ⟨u, rfl, ru⟩ := vals1 r)
  cases ru
  obtain ⟨its, rv, pl, hz⟩ := I.tuple hq
  (refine Calls.call_function_entry (by decide +kernel) (by decide +kernel) PySem.W.kdk_entry_iter (PySem.W.kdk_args_iter _) ?_)
  unfold Builtin.«iter»
  (refine wpAny_bind (m := someArgs "iter" 1 2 _) (wpAny_of_eq (a := [Value.ref l]) (by first | rfl | kernel_rfl!) ?_))
  change wpAny _ _ (pyIter (.ref l) >>= _) _ _ _
  refine wpAny_bind (wpAny_pyIter_tuple (show s.heap.IsTuple l its.toArray from pl) ?_)
  (refine wpAny_pure ⟨_, rfl, ?_⟩)
  exact ⟨.ref s.heap.objs.size, _, I.laid (t' := s.toks) (fun b u e => Heap.get?_push_of_some _ e) (Nat.le_refl _) (tit_ok ⟨_, Heap.get?_push_size _ rfl, rfl, rfl⟩), rfl, q _ (I.hok.fresh (Nat.le_refl _)) I.sz⟩
def iOwn (K : PySem.W.Frag) (C : Addr) (sp : Nat → Sp) (ta : TE) : TI := fun σ H R => ta σ H fun x G => ∃ a dx fs, x = .ref a ∧ G a = some (.ins C dx fs) ∧
  ∀ n, sp n [.ref a] G (fun v G2 => ∃ it t, v = .ref it ∧ n ≤ it ∧ G it = none ∧ G2 = upd G it (TIt t it) ∧ R (Itt K t) G) E0
section
variable {X : Cx} {k : Nat} {C f : Addr} {fd : FuncData} {ps : List Str} {sp : Nat → Sp} {e tg : Expr} {ta : TE}
theorem pi_own (he : PE X e ta) (M : Meth X.K C "__iter__" f) (F : FnS X.prog X.w X.K X.mg X.base k f fd ps sp) (room : Room k X.A) (bd : Binds X.K fd ps []) : PI X tg e (iOwn X.K C sp ta) := by
  refine ⟨fun pn s σ H R I h => ?_⟩
  refine thn (he.run pn s σ H _ I h) fun u s1 ⟨x, G, I1, rx, a, dx, fs, ex, ea, q0⟩ => ?_
  subst ex
  cases rx
  have q := q0 s1.heap.objs.size
  obtain ⟨ox, od, J⟩ := inst I1 ea
  obtain ⟨m', hF⟩ := I1.fr
  refine PySem.W.owit_iter hF I1.ok.mod.kin J M.at_ M.fn ?_
  have len := (F.len _ _ _ _ _ q)
  refine wpAny_call (codeAny_mono (F.run X.A X.stack s1 G ⟨[.ref a], []⟩ [.ref a] [.ref a] _ E0 room I1.env0 (bd s1 [.ref a] I1.kIn (by simpa using len)) (.cons rfl .nil) q) fun r s2 hr => ?_)
  cases r with
  | error er => exact hr.elim
  | ok fl =>
    cases fl with
    | ret u =>
      obtain ⟨v, G3, I3, rv, it, t, ev, young, fr, eG, hR⟩ := I1.after hr
      subst ev eG
      cases rv
      have hx : upd G it (TIt t it) it = some (TIt t it) := upd_same
      have st : s2.heap.IsTupleIter it t 0 := (I3.hok it _ hx).1
      have tyI : s2.TypeIs (.ref it) "tuple_iterator" := st.typeIs
      change PySem.W.OwitIt _ _ _ _ (.ref it) s2
      unfold PySem.W.OwitIt
      refine wpAny_specialOf (name := "__next__") tyI PySem.F.slot_tuple_iterator_next.lookup ?_
      have I4 := ItX.inv_drop I3 hx
      have gone : ItX.dropH (upd G it (TIt t it)) it = G := ItX.dropH_upd fr
      rw [gone] at I4
      refine ⟨it, [it], _, _, G, rfl, I4, turn_tuple t it, st, fun b hb => ?_, hR⟩
      have eb : b = it := by simpa using hb
      subst eb
      have z := ItX.inv_fp I3 hx (Nat.le_trans I1.sz young)
      rwa [gone] at z
    | next => exact False.elim hr
    | brk => exact False.elim hr
    | cont => exact False.elim hr
end
/-! max(xs, default=d), sorted(d, reverse=True), min and max of three -/
def maxL (d : Int) : List Int → Int
  | [] => d
  | n :: ns => ns.foldl max n
section
variable {X : Cx}
theorem alike_ints (ns : List Int) : PySem.W.AlikeAll (ns.map PyData.int) := by
  refine ⟨fun x hx y hy => ?_, fun x hx => ?_⟩
  · obtain ⟨i, _, rfl⟩ := List.mem_map.mp hx
    obtain ⟨j, _, rfl⟩ := List.mem_map.mp hy
    rfl
  · obtain ⟨i, _, rfl⟩ := List.mem_map.mp hx
    exact fun z => nomatch z
theorem depth_ints : ∀ ns : List Int, PyData.depthAll (ns.map PyData.int) ≤ 1
  | [] => by decide
  | n :: ns => by
    show max (PyData.int n).depth (PyData.depthAll (ns.map PyData.int)) ≤ 1
    exact Nat.max_le.mpr ⟨by show PyData.depth (.int n) ≤ 1; unfold PyData.depth; decide, depth_ints ns⟩
def wMaxD (K : PySem.W.Frag) : List V → List V → Hp → VK → Prop := fun vs zs H Q => ∃ (a : Addr) (ns : List Int) (d : Int), vs = [.ref a] ∧ zs = [.int d] ∧ SqL K H a (ns.map V.int) ∧ Q (.int (maxL d ns)) H
theorem c_maxD (hc : X.calm = true) (hu : X.A.units + 64 < cLine) : CallRK X (.builtin "max") ["default"] (wMaxD X.K) := by
  rintro pn s σ H vs zs us ws Q I r rz ⟨a, ns, d, rfl, rfl, hs, q⟩
  obtain rfl := Vals.ref1 r
  (obtain ⟨w1, rfl, e1⟩ := vals1 rz)
  obtain ⟨tk1, rfl⟩ := e1
  (obtain ⟨its, rv, hl, hz⟩ := I.list hs)
  have hi := rv.ints
  have hd := depth_ints ns
  refine PySem.W.max_list_default (I.ok.hd hc) hl.isList (xs := ns.map PyData.int) (as := []) (by simpa using hi.reads s.heap) (alike_ints ns) (by omega) (fun e h' tk kp => ?_) (fun y ys i v h' tk bs e e2 rd kp => ?_)
  · have en : ns = [] := by simpa using e
    subst en
    exact ⟨.int d, H, I.kept kp, ⟨_, rfl⟩, q⟩
  · cases ns with
    | nil => cases e
    | cons n ns =>
      rw [List.map_cons] at e
      cases e
      rw [PySem.W.maxD_ints] at rd
      cases rd
      exact ⟨.int _, H, I.kept kp, ⟨_, rfl⟩, q⟩
def wMin3 : List V → Hp → VK → Prop := fun xs H Q => ∃ i j k : Int, xs = [.int i, .int j, .int k] ∧ Q (.int (min i (min j k))) H
def wMax3 : List V → Hp → VK → Prop := fun xs H Q => ∃ i j k : Int, xs = [.int i, .int j, .int k] ∧ Q (.int (max i (max j k))) H
theorem vals3' {a b c : V} {us : List Value} (r : Vals [a, b, c] us) : ∃ x y z, us = [x, y, z] ∧ RelV a x ∧ RelV b y ∧ RelV c z := by
  cases r with
  | cons p r => cases r with
    | cons p2 r => cases r with
      | cons p3 r =>
        cases r
        exact ⟨_, _, _, rfl, p, p2, p3⟩
theorem c_min3 (hc : X.calm = true) : CallR X (.builtin "min") wMin3 := by
  rintro pn s σ H xs us Q I r ⟨i, j, k, rfl, q⟩
  obtain ⟨_, _, _, rfl, ⟨t1, rfl⟩, ⟨t2, rfl⟩, ⟨t3, rfl⟩⟩ := vals3' r
  refine PySem.min_three_ints (I.ok.hd hc) fun h' tk kp => ?_
  have e : (if j < i then (if k < j then Value.int k t3 else .int j t2) else (if k < i then .int k t3 else .int i t1)) = .int (min i (min j k)) (if j < i then (if k < j then t3 else t2) else (if k < i then t3 else t1)) := by
    split <;> split <;> (congr 1; omega)
  rw [e]
  exact ⟨.int _, H, I.kept kp, ⟨_, rfl⟩, q⟩
def wSortDR : List V → List V → Hp → VK → Prop := fun vs zs H Q => ∃ (a : Addr) (kvs : List (Key × V)) (ks : List Int), vs = [.ref a] ∧ zs = [.bl true] ∧ Rd H a (.dK kvs) ∧ kvs.map (·.1) = ks.map Sum.inl ∧
  ∀ (ys : List Int) (p : Addr), ys.Perm ks → ys.Pairwise (· ≥ ·) → H p = none → Q (.ref p) (upd H p (.lst (ys.map V.int)))
theorem c_sortDR (hc : X.calm = true) : CallRK X (.builtin "sorted") ["reverse"] wSortDR := by
  rintro pn s σ H vs zs us ws Q I r rz ⟨a, kvs, ks, rfl, rfl, hd, hk, q⟩
  obtain rfl := Vals.ref1 r
  (obtain ⟨w1, rfl, e1⟩ := vals1 rz)
  (obtain rfl : w1 = Value.bool true := e1)
  (obtain ⟨z, lo, vs, rel, dd⟩ := dk_rd I.hok hd)
  obtain ⟨ep, at_⟩ := dd.dictAt
  have keys : vs.map (·.1) = ks.map Sum.inl := rel.keys.symm.trans hk
  have same : vs.length = ks.length := by simpa using congrArg List.length keys
  have small : vs.length ≤ sizeLine := by rw [← rel.length]; exact z
  refine PyProof.Rows.call_function_entry_kw PyProof.Rows.kind_sorted PyProof.Rows.plain_sorted PyProof.Rows.entry_sorted (PyProof.Rows.args_sorted_rev _ _) ?_
  unfold Builtin.«sorted»
  (refine wpAny_bind (m := checkCount "sorted" 1 1 _) (wpAny_pure ?_))
  refine wpAny_bind (PySem.W.kdu_collect (A := X.A.in1) (PySem.W.kdl_dict (knd := mixKind X.prog X.w) (kvs := vs) (ep := ep) lo) (I.ok.hd hc) at_ small fun h' tk acc kp hacc => ?_)
  have alen : acc.toList.length = ks.length := by rw [Array.length_toList, hacc.1, same]
  have arei : IntsAre acc.toList ks := ints_each alen fun j v e => by
    obtain ⟨kk, x, e1, e2⟩ := hacc.2 j v (by rw [← Array.getElem?_toList]; exact e)
    have e3 : (vs.map (·.1))[j]? = some kk := by rw [List.getElem?_map, e1]; rfl
    rw [keys, List.getElem?_map] at e3
    cases e4 : ks[j]? with
    | none =>
      rw [e4] at e3
      exact nomatch e3
    | some y =>
      rw [e4] at e3
      have e5 : Sum.inl y = kk := Option.some.inj e3
      subst e5
      rcases keyIs_shape (show keyIs (Sum.inl y) v = true from e2) with ⟨i, t, e6, e7⟩ | ⟨i, t, e6, e7⟩
      · cases e6
        exact ⟨y, t, rfl, e7⟩
      · cases e6
  have I1 : Inv X pn σ H { s with heap := h', toks := tk } := I.kept kp
  have fits : acc.toList.length ≤ sizeLine := by rw [alen, ← same]; exact small
  refine wpAny_bind (wpAny_newList ?_ fits)
  have there : (h'.push (seqObj "list" acc.toList.toArray 0)).get? h'.objs.size = some (seqObj "list" acc.toList.toArray 0) := Heap.get?_push_size _ rfl
  change wpAny _ _ _ _ _ { s with heap := h'.push (seqObj "list" acc.toList.toArray 0), toks := tk }
  refine wpAny_bind (wpAny_holding (PyProof.Rows.wpAny_call_entry_kw PyProof.Rows.slot_list_sort ⟨_, there, rfl⟩ PyProof.Rows.entry_list_sort ?_ (PyProof.Rows.args_list_sort_rev _ _)))
  refine SrtR.list_sort_ordR (s := { s with heap := h'.push (seqObj "list" acc.toList.toArray 0), toks := tk }) (b := true) SrtO.swo_int there fits (fun h2 => SrtO.ints_sortable arei h2) fun out o1 o2 => ⟨_, rfl, ?_⟩
  obtain ⟨ys, y1, y2, y3⟩ := SrtR.ints_outR (b := true) arei o1 o2
  obtain ⟨e', he'⟩ := PyProof.Rows.sortedHeap_at (vs := acc.toList) (out := out.toArray.reverse) there
  have hlen : (ys.map V.int).length ≤ sizeLine := by rw [List.length_map, y2.length_eq, ← alen]; exact fits
  have ok2 : ObjOk X.prog X.w (upd H h'.objs.size (.lst (ys.map V.int))) (PyProof.Rows.sortedHeap (h'.push (seqObj "list" acc.toList.toArray 0)) h'.objs.size acc.toList out.toArray.reverse) h'.objs.size (.lst (ys.map V.int)) :=
    ⟨hlen, out.toArray.reverse.toList, e', vals_of_ints y1, by rw [Array.toArray_toList]; exact he'⟩
  have got := q ys _ y2 y3 (I1.hok.fresh (Nat.le_refl _))
  refine wpAny_pure ⟨_, rfl, .ref h'.objs.size, _, I1.laid (t' := tk) (fun b u e => ?_) (Nat.le_refl _) ok2, rfl, got⟩
  have lt : b < h'.objs.size := Heap.lt_size e
  show (PyProof.Rows.sortedHeap _ _ _ _).get? b = some u
  rw [PyProof.Rows.sortedHeap_old (Nat.ne_of_lt lt) (by rw [size_push']; exact Nat.lt_succ_of_lt lt)]
  (exact Heap.get?_push_of_some _ e)
end
end OW
namespace OW
open PySem PySem.Spec PyProof.Rows L2
section
variable {X : Cx}
def wTupL (K : PySem.W.Frag) : List V → Hp → VK → Prop := fun xs H Q => ∃ (p : Addr) (ys : List V), xs = [.ref p] ∧ SqL K H p ys ∧ ∀ l, H l = none → Q (.ref l) (upd H l (.tup ys))
def wLstL (K : PySem.W.Frag) : List V → Hp → VK → Prop := fun xs H Q => ∃ (p : Addr) (ys : List V), xs = [.ref p] ∧ SqL K H p ys ∧ ∀ l, H l = none → Q (.ref l) (upd H l (.lst ys))
def wLstT (K : PySem.W.Frag) : List V → Hp → VK → Prop := fun xs H Q => ∃ (p : Addr) (ys : List V), xs = [.ref p] ∧ SqT K H p ys ∧ ∀ l, H l = none → Q (.ref l) (upd H l (.lst ys))
end
end OW
namespace OW
open PySem PySem.Spec PyProof.Rows L2
def wIns : V → List V → Hp → VK → Prop := fun x vs H Q => ∃ (l : Addr) (xs : List V) (i : Int) (y : V), x = .ref l ∧ vs = [.int i, y] ∧ H l = some (.lst xs) ∧ xs.length < sizeLine ∧ 0 ≤ i ∧ i < 2 ^ 63 ∧ Q .non (upd H l (.lst (xs.take i.toNat ++ [y] ++ xs.drop i.toNat)))
theorem m_ins {X : Cx} : MtR X "list.insert" wIns := mt_insert
end OW
namespace OW
open PySem PySem.Spec PyProof.Rows L2
/-- a op b op' c op'' d as a test -/
def tChain3 (r r' r'' : R2) (ta tb tc td : TE) : TT := fun σ H QB => ta σ H fun x G => tb σ G fun y G1 => r x y G1 fun z G2 => ∃ k, z = .bl k ∧
  (if k = true then tc σ G2 fun u G3 => r' y u G3 fun z2 G4 => ∃ k2, z2 = .bl k2 ∧
    (if k2 = true then td σ G4 fun v G5 => r'' u v G5 fun z3 G6 => ∃ k3, z3 = .bl k3 ∧ QB k3 G6 else QB false G4) else QB false G2)
section
variable {X : Cx} {a b c d : Expr} {ta tb tc td : TE} {pos : Pos} {op op' op'' : CmpOp} {r r' r'' : R2}
theorem pt_chain3 (h1 : OpR X (compareOp op) r) (h2 : OpR X (compareOp op') r') (h3 : OpR X (compareOp op'') r'') (ha : PE X a ta) (hb : PE X b tb) (hc : PE X c tc) (hd : PE X d td)
    (hm : lastMarks [op, op', op''] [b, c, d] = false := by with_unfolding_all rfl) : PT X (.Compare a [op, op', op''] [b, c, d] pos) (tChain3 r r' r'' ta tb tc td) := by
  refine ⟨fun pn s σ H Q I h => ?_⟩
  refine isTrue_chain (thn (ha.run pn s σ H _ I h) fun v s1 ⟨x, G1, I1, r1, q1⟩ => test_link (thn (hb.run pn s1 σ G1 _ I1 q1) fun u s2 ⟨y, G2, I2, r2, q2⟩ =>
    thn (h1 pn s2 σ G2 x y v u _ I2 r1 r2 q2) fun e1 s3 ⟨z, G3, I3, r3, k, e, q3⟩ => ?_)) hm
  subst e
  cases r3
  refine wpAny_truthy_bool ?_
  cases k with
  | false => exact ite_ff ⟨G3, I3, q3⟩
  | true =>
    refine ite_tt (test_link (thn (hc.run pn s3 σ G3 _ I3 q3) fun v2 s4 ⟨y2, G4, I4, r4, q4⟩ => thn (h2 pn s4 σ G4 y y2 u v2 _ I4 r2 r4 q4) fun e2 s5 ⟨z2, G5, I5, r5, k2, e3, q5⟩ => ?_))
    subst e3
    cases r5
    refine wpAny_truthy_bool ?_
    cases k2 with
    | false => exact ite_ff ⟨G5, I5, q5⟩
    | true =>
      refine ite_tt (test_last (thn (hd.run pn s5 σ G5 _ I5 q5) fun v3 s6 ⟨y3, G6, I6, r6, q6⟩ => thn (h3 pn s6 σ G6 y2 y3 v2 v3 _ I6 r4 r6 q6) fun e4 s7 ⟨z3, G7, I7, r7, k3, e5, q7⟩ => ?_))
      subst e5
      cases r7
      exact wpAny_truthy_bool ⟨G7, I7, q7⟩
end
end OW
namespace OW
open PySem PySem.Spec PyProof.Rows L2
def wIsN : R2 := fun x y H Q => y = .non ∧ Q (.bl (decide (x = .non))) H
def wNotN : R2 := fun x y H Q => y = .non ∧ Q (.bl (!decide (x = .non))) H
end OW
namespace OW
open PySem PySem.Spec PyProof.Rows L2
end OW
namespace OW
open PySem PySem.Spec PyProof.Rows L2
/-- C(e, ..), C a local name -/
def tMakeL (i : Nat) (C : Addr) (sp : Sp) (E : XK) (t : TA) : TE := fun σ H Q => σ[i]? = some (some (.ref C)) ∧ tMake C sp [] E t σ H Q
section
variable {X : Cx} {CX : CXT} {k : Nat} {C f : Addr} {fd : FuncData} {ps : List Str} {sp : Sp} {E : XK} {K : PySem.W.Frag}
end
end OW
end
section
namespace PL
open PySem PySem.Spec PyProof.Rows L2
variable {K : PySem.W.Frag} {ad : Cl → Addr} {ct : CT}
variable {fr : Fr} {F F' H H' : Hp} {σ : L2.St} {ρ : List Sl} {W : WX}
/-! ### arguments -/
section
variable {X : Cx}
theorem pq_n : PA X [] (TAr K ct W (evAs [])) := pa_nil.imp fun σ H Q h => by
  obtain ⟨fr, F, ρ, S, h⟩ := h
  exact Tat.ok (a := ([] : List Ar)) h [] F H (Same.refl _) S RAs.nil
theorem RAs.mono {F F' : Hp} {σ : L2.St} (s : Same F F') : ∀ {vs : List V} {as : List Ar}, RAs K ct.ad F σ vs as → RAs K ct.ad F' σ vs as
  | _, _, .nil => .nil
  | _, .d _ :: _, .cons h r => .cons (Rp.mono s h) (RAs.mono s r)
  | _, .c _ :: _, .cons h r => .cons h (RAs.mono s r)
theorem pq_c {e : Expr} {es : List Expr} {m : Ev} {r : List AE} (he : PE X e (TP K ct W m)) (hr : PA X es (TAr K ct W (evAs r)))
    (hs : starEach (e :: es) X.env = (false, eval e X.env) :: starEach es X.env := by rfl) : PA X (e :: es) (TAr K ct W (evAs (.e m :: r))) := (pa_cons he hr hs).imp fun σ H Q h => by
  obtain ⟨fr, F, ρ, S, h⟩ := h
  refine Tat.dat h S fun F1 H1 ρ1 v d s1 S1 r1 h => ?_
  refine Tat.bnd h S1 fun F2 H2 ρ2 vs ds s2 S2 r2 h => ?_
  exact Tat.ok (a := Ar.d d :: ds) h _ F2 H2 (Same.refl _) S2 (RAs.cons (r1.mono s2) r2)
theorem pq_k {e : Expr} {es : List Expr} (j : Nat) {r : List AE} (he : PE X e (tVar j)) (hr : PA X es (TAr K ct W (evAs r)))
    (hs : starEach (e :: es) X.env = (false, eval e X.env) :: starEach es X.env := by rfl) : PA X (e :: es) (TAr K ct W (evAs (.c j :: r))) := (pa_cons he hr hs).imp fun σ H Q h => by
  obtain ⟨fr, F, ρ, S, r0, ρ0, e0, q0⟩ := h
  have e1 : (match ρ[j]? with | some (.cel _ _) => bnd (evAs r) (fun as => pur (.c j :: as)) ρ | _ => none) = some (r0, ρ0) := e0
  split at e1
  · rename_i k c hc
    obtain ⟨p, o, h1, h2⟩ := S.cell_at hc
    refine ⟨_, h1, ?_⟩
    have h : Tat K ct (RA K ct.ad) W fr F ρ (bnd (evAs r) (fun as => pur (.c j :: as))) σ Q := ⟨r0, ρ0, e1, q0⟩
    refine Tat.bnd h S fun F2 H2 ρ2 vs ds s2 S2 r2 h => ?_
    exact Tat.ok (a := Ar.c j :: ds) h _ F2 H2 (Same.refl _) S2 (RAs.cons h1 r2)
  · cases e1
end
/-- a call whose arguments stand -/
def evCall0 (n : Nat) (G : Fn) (as : List AE) (ds : List D := []) : Ev := bnd (evAs as) fun ar => noEr (callG n G (ar ++ ds.map .d))
theorem Tat.noEr {α β : Type} {R : Rel3 β α} {m : M α} {Q : β → Hp → Prop} (h : Tat K ct R W fr F ρ (PL.noEr m) σ Q) : Tat K ct R (fun _ _ _ _ => False) fr F ρ m σ Q := by
  obtain ⟨r, ρ', e, q⟩ := h
  unfold PL.noEr at e
  split at e
  · rename_i a ρ1 h1
    cases e
    exact ⟨_, _, h1, q⟩
  · cases e
theorem spP.no {n : Nat} {G : Fn} {vs : List V} {H : Hp} {Q : VK} {E : XK} (h : spP K ad n (noEr G) vs H Q E) : spP K ad n G vs H Q (fun _ _ _ => False) := by
  obtain ⟨hn, fr, F, ss, S, hP, hF, t⟩ := h
  exact ⟨hn, fr, F, ss, S, hP, hF, t.noEr⟩
/-- a def that raises nothing -/
def run0 (k : Nat) (s : M Fl) : Fn := noEr (runB k s)
theorem ok0 {P : Program} {w : World} {mg : Str → Option Value} {base : Heap} {x qual : Str} {st : Stmt} {f : Addr} {fd : FuncData} {N ps : List Str} {lv : Nat} {n k : Nat} {s : M Fl} (Fd : L2.Fun K x qual st f fd) (S : FnScope N ps (defScope st)) (hp : ps.length = n) (hN : N.length = n + k)
    (hb : ∀ (cdv : Value) (A : Around) (outer : List Env) (s0 : Shared) (H : Hp) (E : XK), Room lv (A.deeper (envOfC qual (defScope st) s0.heap.objs.size f cdv)) →
      PSs (cxOf CX0 P w K mg base N qual (defScope st) f cdv A outer s0 H E).nox (defBody st) (TSt K (cx ad) (fun _ _ _ _ => False) s)) : FnOk P w K mg base CX0 (lv + 1) f fd ps (spP K ad n (run0 k s)) :=
  Fd.ok S (fun vs H Q E h => by rw [hp]; exact h.1) fun cdv A outer s0 H vs Q E hr h => ⟨_, hb cdv A outer s0 H E hr, body_end (E := fun _ _ _ => False) hN h.no⟩
inductive Dfs : List V → List D → Prop
  | nil : Dfs [] []
  | cons {v : V} {d : D} {vs : List V} {ds : List D} (h : d.toV = some v) (r : Dfs vs ds) : Dfs (v :: vs) (d :: ds)
theorem RAs.dfs {F : Hp} {σ : L2.St} {dvs : List V} {ds : List D} (hd : Dfs dvs ds) : ∀ {vs : List V} {as : List Ar}, RAs K ct.ad F σ vs as → RAs K ct.ad F σ (vs ++ dvs) (as ++ ds.map .d)
  | _, _, .nil => by
    induction hd with
    | nil => exact .nil
    | cons h _ ih => exact .cons (D.toV_rp h) ih
  | _, _, .cons h r => .cons h (RAs.dfs hd r)
section
variable {X : Cx} {CX : CXT} {k : Nat} {f : Addr} {fd : FuncData} {ps : List Str} {x : Str} {p pos apos : Pos} {e o : Expr} {es : List Expr} {n : Nat} {G : Fn} {as : List AE} {dvs : List V} {dds : List D} {ds : List Value}
/-- what may be raised meets the wish -/
theorem pp_callS (Fn : FnOk X.prog X.w X.K X.mg X.base (L2.CX X.prog X.w) k f fd ps (spP K ct.ad n G)) (tk : Takes X W) (hr : Room k X.A) (hg : Gl X x) (hm : X.mg x = some (.ref f)) (hk : PySem.W.keepIn X.K (.ref f) = true) (hb : Binds X.K fd ps [])
    (ha : PA X (e :: es) (TAr K ct W (evAs as))) (hdb : (x == ("__debug__" : Str)) = false := by decide) (he : starEach (e :: es) X.env = (false, eval e X.env) :: starEach es X.env := by rfl) (hpl : (backTo pos (starEach es X.env)).any (·.1) = false := by rfl) :
    PE X (.Call (.Name x p) (e :: es) [] pos) (TP K ct W (evCall n G as)) := (pe_callS Fn hr hg hm hk hb (fun σ => passAt tk σ) ha hdb he hpl).imp fun σ H Q h => by
  obtain ⟨fr, F, ρ, S, h⟩ := h
  refine Tat.bnd h S fun F1 H1 ρ1 vs ar s1 S1 r1 h => ?_
  rw [List.map_nil, List.append_nil] at h
  exact Tat.call h S1 r1 fun _ _ _ z => z
theorem pp_call (Fn : FnOk X.prog X.w X.K X.mg X.base CX k f fd ps (spP K ct.ad n G)) (hr : Room k X.A) (hg : Gl X x) (hm : X.mg x = some (.ref f)) (hk : PySem.W.keepIn X.K (.ref f) = true) (hb : Binds X.K fd ps ds) (hd : Vals dvs ds) (hx : Passes CX X E0)
    (ha : PA X (e :: es) (TAr K ct W (evAs as))) (hdf : Dfs dvs dds) (hdb : (x == ("__debug__" : Str)) = false := by decide) (he : starEach (e :: es) X.env = (false, eval e X.env) :: starEach es X.env := by rfl) (hpl : (backTo pos (starEach es X.env)).any (·.1) = false := by rfl) :
    PE X (.Call (.Name x p) (e :: es) [] pos) (TP K ct W (evCall0 n G as dds)) := (pe_call Fn hr hg hm hk hb hd hx ha hdb he hpl).imp fun σ H Q h => by
  obtain ⟨fr, F, ρ, S, h⟩ := h
  refine Tat.bnd h S fun F1 H1 ρ1 vs ar s1 S1 r1 h => ?_
  exact Tat.call (W := fun _ _ _ _ => False) h.noEr S1 (RAs.dfs hdf r1) fun _ _ _ z => z
/-! methods of data objects -/
def evMeth (n : Nat) (G : Fn) (c : Cl) (o : Ev) (as : List AE) : Ev := bnd (dat o) fun d => match d with
  | .obj c' xs => if c' = c then bnd (evAs as) fun ar => noEr (callG n G (.d (.obj c' xs) :: ar)) else fai
  | _ => fai
def evMethS (n : Nat) (G : Fn) (c : Cl) (o : Ev) (as : List AE) : Ev := bnd (dat o) fun d => match d with
  | .obj c' xs => if c' = c then bnd (evAs as) fun ar => callG n G (.d (.obj c' xs) :: ar) else fai
  | _ => fai
theorem Tat.obj {δ γ : Type} {R' : Rel3 δ γ} {m : Ev} {c : Cl} {k : List D → M γ} {Q : δ → Hp → Prop} {Q1 : V → Hp → Prop}
    (h : Tat K ct R' W fr F ρ (PL.bnd (PL.dat m) fun d => match d with | .obj c' xs => if c' = c then k xs else fai | _ => fai) σ Q) (S : Rel K ct fr F H σ ρ)
    (hq : ∀ F1 H1 ρ1 a dx vs xs, Same F F1 → Rel K ct fr F1 H1 σ ρ1 → F1 a = some (.ins (ct.ad c) dx (c.fn.zip vs)) → c.fn.length = vs.length → Rps K ct.ad F1 vs xs → Tat K ct R' W fr F1 ρ1 (k xs) σ Q → Q1 (.ref a) H1) : T K ct (RV K ct.ad) W m σ H Q1 := by
  refine Tat.dat h S fun F1 H1 ρ1 v d s1 S1 r1 h => ?_
  cases d with
  | obj c' xs =>
    cases r1 with
    | @obj a dx _ vs _ h1 l1 k1 =>
      have h9 : Tat K ct R' W fr F1 ρ1 (if c' = c then k xs else fai) σ Q := h
      clear h
      split at h9
      · rename_i ec
        subst ec
        exact hq F1 H1 ρ1 a dx vs xs s1 S1 h1 l1 k1 h9
      · obtain ⟨_, _, e, _⟩ := h9; cases e
  | _ => obtain ⟨_, _, e, _⟩ := h; cases e
theorem dcont {α : Type} {c : Cl} {k : Cl → List D → M α} : (fun d : D => match d with | .obj c' xs => if c' = c then k c' xs else fai | _ => (fai : M α)) = fun d => match d with | .obj c' xs => if c' = c then k c xs else fai | _ => fai := by
  funext d
  cases d <;> try rfl
  rename_i c' xs
  by_cases e : c' = c
  · subst e; rfl
  · simp [e]
/-- how a call of a method runs, with these words -/
abbrev CallsM (X : Cx) (o : Expr) (m : Str) (apos pos : Pos) (pl : Sem Bool) (ws : List Expr) : Prop :=
  eval (.Call (.Attribute o m apos) ws [] pos) X.env = eval o X.env >>= fun y => standAt apos.atName >>= fun _ => holding [y] (getMethod y m pl) >>= fun z =>
    callWith pos z.1 z.2 (backTo pos (starEach ws X.env)) (backToKw pos (keywordEach [] X.env))
theorem pp_meth {m : Str} {pl : Sem Bool} {fo : Ev} (c : Cl) (he : PE X o (TP K ct W fo)) (cl : Cls X.K (ct.ad c)) (hm : Meth X.K (ct.ad c) m f) (Fn : FnOk X.prog X.w X.K X.mg X.base CX k f fd ps (spP K ct.ad n G)) (hr : Room k X.A) (hb : Binds X.K fd ps []) (hx : Passes CX X E0)
    (ha : PA X (e :: es) (TAr K ct W (evAs as))) (nm : c.fn.findIdx? (fun k => m == k) = none := by decide)
    (hst : starEach (e :: es) X.env = (false, eval e X.env) :: starEach es X.env := by rfl) (hpl : (backTo pos (starEach es X.env)).any (·.1) = false := by rfl)
    (ht : CallsM X o m apos pos pl (e :: es) := by rfl) :
    PE X (.Call (.Attribute o m apos) (e :: es) [] pos) (TP K ct W (evMeth n G c fo as)) := (pe_meth he cl hm Fn hr hb .nil hx ha hst hpl ht).imp fun σ H Q h => by
  obtain ⟨fr, F, ρ, S, h⟩ := h
  unfold evMeth at h
  rw [dcont (k := fun c xs => bnd (evAs as) fun ar => noEr (callG n G (.d (.obj c xs) :: ar)))] at h
  refine Tat.obj h S fun F1 H1 ρ1 a dx vs xs s1 S1 h1 l1 k1 h => ?_
  refine ⟨a, dx, _, rfl, S1.fh _ _ h1, look_no nm, ?_⟩
  refine Tat.bnd h S1 fun F2 H2 ρ2 us ar s2 S2 r2 h => ?_
  rw [List.append_nil]
  exact Tat.call (W := fun _ _ _ _ => False) h.noEr S2 (RAs.cons ((Rp.obj h1 l1 k1).mono s2) r2) fun _ _ _ z => z
/-- o.m(e, ..), what it raises meets the wish at the slots as they stand -/
def tMethE (C : Addr) (m : Str) (sp : Sp) (E : L2.St → XK) (ta : TE) (t : TA) : TE := fun σ H Q => ta σ H fun x H1 => ∃ a dx fs, x = .ref a ∧ H1 a = some (.ins C dx fs) ∧ fs.lookup m = none ∧ t σ H1 fun vs H2 => sp (x :: vs) H2 Q (E σ)
theorem pe_methE {C : Addr} {m : Str} {pl : Sem Bool} {sp : Sp} {E : L2.St → XK} {ta : TE} {t : TA} (he : PE X o ta) (c : Cls X.K C) (hm : Meth X.K C m f) (Fn : FnOk X.prog X.w X.K X.mg X.base CX k f fd ps sp) (hr : Room k X.A) (hb : Binds X.K fd ps []) (hx : ∀ σ, PassesAt CX X σ (E σ)) (ha : PA X (e :: es) t)
    (hst : starEach (e :: es) X.env = (false, eval e X.env) :: starEach es X.env := by rfl) (hpl : (backTo pos (starEach es X.env)).any (·.1) = false := by rfl)
    (ht : CallsM X o m apos pos pl (e :: es) := by rfl) :
    PE X (.Call (.Attribute o m apos) (e :: es) [] pos) (tMethE C m sp E ta t) := by
  (refine ⟨fun pins s σ H Q I h => ?_⟩)
  (refine PySem.W.methodCall_KW (pl := pl) (thn (he.run pins s σ H _ I h) fun u s1 ⟨x, H1, I1, rx, a, dx, fs, ex, ea, l, q⟩ => ?_) ht)
  subst ex
  (obtain rfl : u = Value.ref a := rx)
  (refine getmeth_ok I1 ea c hm l ?_)
  (refine PySem.W.callWith_K (first := [.ref a]) (h₀ := X.base) I.ok.mod.kin hm.kp (thn (ha.run pos pins s1 σ H1 _ I1 q) fun us s2 ⟨vs, H2, I2, r, q2⟩ => ⟨I2.kIn, ?_⟩) hst hpl)
  exact run_fnS (us := .ref a :: us) (vs := .ref a :: vs) Fn hr hb (hx σ) I2 (.cons rfl r) q2
theorem pp_methS {m : Str} {pl : Sem Bool} {fo : Ev} (c : Cl) (he : PE X o (TP K ct W fo)) (cl : Cls X.K (ct.ad c)) (hm : Meth X.K (ct.ad c) m f) (Fn : FnOk X.prog X.w X.K X.mg X.base (L2.CX X.prog X.w) k f fd ps (spP K ct.ad n G)) (tk : Takes X W) (hr : Room k X.A) (hb : Binds X.K fd ps [])
    (ha : PA X (e :: es) (TAr K ct W (evAs as))) (nm : c.fn.findIdx? (fun k => m == k) = none := by decide)
    (hst : starEach (e :: es) X.env = (false, eval e X.env) :: starEach es X.env := by rfl) (hpl : (backTo pos (starEach es X.env)).any (·.1) = false := by rfl)
    (ht : CallsM X o m apos pos pl (e :: es) := by rfl) :
    PE X (.Call (.Attribute o m apos) (e :: es) [] pos) (TP K ct W (evMethS n G c fo as)) := (pe_methE he cl hm Fn hr hb (fun σ => passAt tk σ) ha hst hpl ht).imp fun σ H Q h => by
  obtain ⟨fr, F, ρ, S, h⟩ := h
  unfold evMethS at h
  rw [dcont (k := fun c xs => bnd (evAs as) fun ar => callG n G (.d (.obj c xs) :: ar))] at h
  refine Tat.obj h S fun F1 H1 ρ1 a dx vs xs s1 S1 h1 l1 k1 h => ?_
  refine ⟨a, dx, _, rfl, S1.fh _ _ h1, look_no nm, ?_⟩
  refine Tat.bnd h S1 fun F2 H2 ρ2 us ar s2 S2 r2 h => ?_
  exact Tat.call h S2 (RAs.cons ((Rp.obj h1 l1 k1).mono s2) r2) fun _ _ _ z => z
/-! properties -/
theorem pp_prop {m : Str} {q : Addr} {fo : Ev} (c : Cl) (he : PE X o (TP K ct W fo)) (cl : Cls X.K (ct.ad c)) (hp : PropOf X.K (ct.ad c) m q f) (Fn : FnOk X.prog X.w X.K X.mg X.base CX k f fd ps (spP K ct.ad n G)) (hr : Room (k + 1) X.A) (hb : Binds X.K fd ps []) (hx : Passes CX X.nox E0)
    (hab : attributeBase o m X.env (eval o X.env) = eval o X.env := by rfl) : PE X (.Attribute o m pos) (TP K ct W (evMeth n G c fo [])) := (pe_prop he cl hp Fn hr hb .nil hx hab).imp fun σ H Q h => by
  obtain ⟨fr, F, ρ, S, h⟩ := h
  unfold evMeth at h
  rw [dcont (k := fun c xs => bnd (evAs []) fun ar => noEr (callG n G (.d (.obj c xs) :: ar)))] at h
  refine Tat.obj h S fun F1 H1 ρ1 a dx vs xs s1 S1 h1 l1 k1 h => ?_
  refine ⟨a, dx, _, rfl, S1.fh _ _ h1, ?_⟩
  exact Tat.call (W := fun _ _ _ _ => False) (ar := [.d (.obj c xs)]) (Tat.noEr h) S1 (RAs.cons (Rp.obj h1 l1 k1) RAs.nil) fun _ _ _ z => z
/-! operators of own objects -/
def evOwn2 (n : Nat) (G : Fn) (c : Cl) (a b : Ev) : Ev := bnd (dat a) fun d => match d with
  | .obj c' xs => if c' = c then bnd (dat b) fun d2 => (match d2 with
      | .obj c2 ys => if c2 = c then noEr (callG n G [.d (.obj c xs), .d (.obj c ys)]) else fai
      | _ => fai) else fai
  | _ => fai
/-- x in o, o an own object -/
def evOwnIn (n : Nat) (G : Fn) (c : Cl) (a b : Ev) : Ev := bnd (dat a) fun x => bnd (dat b) fun d => match d with
  | .obj c' xs => if c' = c then tst (noEr (callG n G [.d (.obj c xs), .d x])) |> fun t => bnd t fun b => vD (.bl b) else fai
  | _ => fai
theorem pp_ownin {m : Str} {a b : Expr} {fa fb : Ev} (c : Cl) (hm : m = "__contains__") (M : Meth X.K (ct.ad c) m f) (Fn : FnOk X.prog X.w X.K X.mg X.base CX k f fd ps (spP K ct.ad n G)) (hr : Room k X.A) (hb : Binds X.K fd ps []) (hx : Passes CX X E0)
    (ha : PE X a (TP K ct W fa)) (hbb : PE X b (TP K ct W fb)) (hmk : behindInMarks .In b = false) : PE X (.Compare a [.In] [b] pos) (TP K ct W (evOwnIn n G c fa fb)) := (pe_cmpR (OW.op_in hm M Fn hr hb hx) ha hbb hmk).imp fun σ H Q h => by
  obtain ⟨fr, F, ρ, S, h⟩ := h
  refine Tat.dat h S fun F0 H0 ρ0 x dx0 s0 S0 r0 h => ?_
  refine Tat.obj h S0 fun F1 H1 ρ1 a dx vs xs s1 S1 h1 l1 k1 h => ?_
  refine ⟨a, dx, _, rfl, S1.fh _ _ h1, ?_⟩
  have h2 : Tat K ct (RV K ct.ad) W fr F1 ρ1 (noEr (callG n G [.d (.obj c xs), .d dx0])) σ fun z H' => ∃ b, z = .bl b ∧ Q (.bl (if false then !b else b)) H' :=
    Tat.tstT (k := fun b => vD (.bl b)) h fun F2 H2 ρ2 b s2 S2 h => ⟨b, rfl, Tat.ok (a := Rv.d (.bl b)) h _ F2 H2 (Same.refl _) S2 (Rp.bl b)⟩
  exact Tat.call (W := fun _ _ _ _ => False) (Tat.noEr h2) S1 (RAs.cons (Rp.obj h1 l1 k1) (RAs.cons (r0.mono s1) RAs.nil)) fun _ _ _ z => z
end
end PL
end
section
namespace PL
open PySem PySem.Spec PyProof.Rows L2
variable {K : PySem.W.Frag} {ad : Cl → Addr} {ct : CT}
variable {fr : Fr} {F F' H H' : Hp} {σ : L2.St} {ρ : List Sl} {W : WX}
/-! ### statements -/
def evSeq (s t : M Fl) : M Fl := fun ρ => match s ρ with
  | some (.ok .nx, ρ1) => t ρ1
  | r => r
def evNx : M Fl := pur .nx
def setD (i : Nat) (d : D) : M Fl := fun ρ => match ρ[i]? with
  | some (.cel .par _) => none
  | some _ => some (.ok .nx, ρ.set i (.dat d))
  | none => none
def setC (i : Nat) (c : CC) : M Fl := fun ρ => match ρ[i]? with
  | some (.cel .par _) => none
  | some _ => some (.ok .nx, ρ.set i (.cel .own c))
  | none => none
def evAsg (i : Nat) (e : Ev) : M Fl := bnd (dat e) fun d => setD i d
def evAsgC (i : Nat) (e : Ev) : M Fl := bnd e fun r => match r with | .c c => setC i c | .d _ => fai
def evEx (e : Ev) : M Fl := bnd e fun _ => pur .nx
def evRet (e : Ev) : M Fl := bnd e fun r => pur (.rt r)
def evIf (t : M Bool) (a b : M Fl) : M Fl := bnd t fun c => if c then a else b
variable (K ct) in
theorem Sat.bnd {R : Rel3 β α} {D : Ends} {m : M α} {k : α → M Fl} {Q1 : β → Hp → Prop} (h : Sat K ct W D fr F ρ (PL.bnd m k)) (S : Rel K ct fr F H σ ρ)
    (hW : ∀ σ' cls d H', W cls d σ' H' → W cls d σ' H')
    (hq : ∀ F1 H1 ρ1 v a, Same F F1 → Rel K ct fr F1 H1 σ ρ1 → R fr F1 H1 σ ρ1 v a → Sat K ct W D fr F1 ρ1 (k a) → Q1 v H1) : T K ct R W m σ H Q1 := by
  refine ⟨fr, F, ρ, S, ?_⟩
  obtain ⟨r, ρ', e, q⟩ := h
  unfold PL.bnd at e
  cases em : m ρ with
  | none => rw [em] at e; cases e
  | some x =>
    obtain ⟨r1, ρ1⟩ := x
    rw [em] at e
    cases r1 with
    | ok a =>
      refine ⟨.ok a, ρ1, em, fun v F1 H1 s1 S1 r1 => hq F1 H1 ρ1 v a s1 S1 r1 ⟨r, ρ', e, ?_⟩⟩
      cases r with
      | ok z =>
        cases z with
        | nx => exact fun σ' F' H' s' => q σ' F' H' (s1.trans s')
        | bk => exact fun σ' F' H' s' => q σ' F' H' (s1.trans s')
        | ct => exact fun σ' F' H' s' => q σ' F' H' (s1.trans s')
        | rt x => exact fun σ' v F' H' s' => q σ' v F' H' (s1.trans s')
      | er c pl => exact fun σ' d F' H' s' => q σ' d F' H' (s1.trans s')
    | er c pl =>
      refine ⟨.er c pl, ρ1, em, ?_⟩
      have e : (some (Ex.er c pl, ρ1) : Option (Ex Fl × List Sl)) = some (r, ρ') := e
      cases e
      exact fun d F' H' s' S' pr => q σ d F' H' s' S' pr
theorem Sat.mono {D : Ends} {s : M Fl} (h : Sat K ct W D fr F ρ s) (s1 : Same F F') : Sat K ct W D fr F' ρ s := by
  obtain ⟨r, ρ', e, q⟩ := h
  refine ⟨r, ρ', e, ?_⟩
  cases r with
  | ok z =>
    cases z with
    | nx => exact fun σ' F' H' s' => q σ' F' H' (s1.trans s')
    | bk => exact fun σ' F' H' s' => q σ' F' H' (s1.trans s')
    | ct => exact fun σ' F' H' s' => q σ' F' H' (s1.trans s')
    | rt x => exact fun σ' v F' H' s' => q σ' v F' H' (s1.trans s')
  | er c pl => exact fun σ' d F' H' s' => q σ' d F' H' (s1.trans s')
/-- .. of data -/
theorem Sat.dat {D : Ends} {m : Ev} {k : PL.D → M Fl} {Q1 : V → Hp → Prop} (h : Sat K ct W D fr F ρ (PL.bnd (PL.dat m) k)) (S : Rel K ct fr F H σ ρ)
    (hq : ∀ F1 H1 ρ1 v d, Same F F1 → Rel K ct fr F1 H1 σ ρ1 → Rp K ct.ad F1 v d → Sat K ct W D fr F1 ρ1 (k d) → Q1 v H1) : T K ct (RV K ct.ad) W m σ H Q1 := by
  have e : PL.bnd (PL.dat m) k = PL.bnd m fun r => PL.bnd (match r with | Rv.d d => pur d | Rv.c c => PL.opt c.froz) k := by
    funext ρ
    unfold PL.dat PL.bnd
    cases em : m ρ with
    | none => rfl
    | some x =>
      obtain ⟨r1, ρ1⟩ := x
      cases r1 with
      | ok a => cases a <;> rfl
      | er c pl => rfl
  rw [e] at h
  refine Sat.bnd K ct h S (fun _ _ _ _ z => z) fun F1 H1 ρ1 v r s1 S1 r1 q => ?_
  cases r with
  | d d => exact hq F1 H1 ρ1 v d s1 S1 r1 q
  | c c =>
    obtain ⟨p, ev, fp⟩ := r1
    subst ev
    cases ef : c.froz with
    | none =>
      obtain ⟨r, ρ', e, q⟩ := q
      have e : PL.bnd (PL.opt c.froz) k ρ1 = some (r, ρ') := e
      rw [ef] at e
      cases e
    | some d =>
      obtain ⟨F2, s2, rp, S2⟩ := fp.frz S1 ef
      refine hq F2 H1 ρ1 _ d (s1.trans s2) S2 rp ?_
      have q2 := q.mono s2
      obtain ⟨r, ρ', e, q⟩ := q2
      have e : PL.bnd (PL.opt c.froz) k ρ1 = some (r, ρ') := e
      rw [ef] at e
      exact ⟨r, ρ', e, q⟩
theorem Sat.to {D : Ends} {s : M Fl} (h : Sat K ct W D fr F ρ s) (S : Rel K ct fr F H σ ρ) : TSt K ct W s D σ H := ⟨fr, F, ρ, S, h⟩
theorem Sat.nx {D : Ends} (h : Sat K ct W D fr F ρ (pur .nx)) {σ' : L2.St} {H' : Hp} (s : Same F F') (S : Rel K ct fr F' H' σ' ρ) : D.nx σ' H' := by
  obtain ⟨r, ρ', e, q⟩ := h
  cases e
  exact q σ' F' H' s S
theorem Rel.npar (S : Rel K ct fr F H σ ρ) {i : Nat} {s : Sl} (e : ρ[i]? = some s) (h : ∀ c, s ≠ .cel .par c) : fr.pa i = none := by
  cases z : fr.pa i with
  | none => rfl
  | some q =>
    obtain ⟨k1, c1, h1, h2⟩ := S.pcs i q z
    rw [e] at h1
    cases h1
    cases k1 with
    | own => cases h2
    | par => exact absurd rfl (h c1)
theorem Sat.setD {D : Ends} {i : Nat} {d : PL.D} {v : V} (h : Sat K ct W D fr F ρ (PL.setD i d)) (S : Rel K ct fr F H σ ρ) (r : Rp K ct.ad F v d) : D.nx (σ.set i (some v)) H := by
  obtain ⟨r0, ρ', e, q⟩ := h
  unfold PL.setD at e
  split at e
  · cases e
  · rename_i s hn hs
    cases e
    exact q _ F H (Same.refl _) (S.setD r (S.npar hs hn))
  · cases e
theorem Sat.setC {D : Ends} {i : Nat} {c : CC} {p : Addr} (h : Sat K ct W D fr F ρ (PL.setC i c)) (S : Rel K ct fr F H σ ρ) (r : Fresh K ct.ad fr F H σ ρ p c) : D.nx (σ.set i (some (.ref p))) H := by
  obtain ⟨r0, ρ', e, q⟩ := h
  unfold PL.setC at e
  split at e
  · cases e
  · rename_i s hn hs
    cases e
    exact q _ F H (Same.refl _) (S.setC r (S.npar hs hn))
  · cases e
section
variable {X : Cx} {e : Expr} {m : Ev} {pos pos' : Pos} {s t : M Fl} {tb : M Bool} {st : Stmt} {sts : List Stmt}
theorem ss_c (h1 : PS X st (TSt K ct W s)) (h2 : PSs X sts (TSt K ct W t)) : PSs X (st :: sts) (TSt K ct W (evSeq s t)) := (pss_cons h1 h2).imp fun D σ H h => by
  obtain ⟨fr, F, ρ, S, r, ρ', e, q⟩ := h
  refine ⟨fr, F, ρ, S, ?_⟩
  unfold evSeq at e
  cases es : s ρ with
  | none => rw [es] at e; cases e
  | some x =>
    obtain ⟨r1, ρ1⟩ := x
    rw [es] at e
    refine ⟨r1, ρ1, es, ?_⟩
    cases r1 with
    | ok fl =>
      cases fl with
      | nx =>
        intro σ1 F1 H1 s1 S1
        refine ⟨fr, F1, ρ1, S1, Sat.mono ⟨r, ρ', e, q⟩ s1⟩
      | bk => cases e; exact q
      | ct => cases e; exact q
      | rt x => cases e; exact q
    | er c pl => cases e; exact q
theorem ss_1 (h1 : PS X st (TSt K ct W s)) : PSs X [st] (TSt K ct W s) := (pss_one h1).imp fun D σ H h => h
theorem ss_n : PSs X [] (TSt K ct W evNx) := pss_nil.imp fun D σ H ⟨fr, F, ρ, S, h⟩ => h.nx (Same.refl _) S
theorem s_set {i : Nat} {x : Str} (hN : X.N.Nodup) (hi : X.N[i]? = some x) (hx : Loc X.env.scope x) (he : PE X e (TP K ct W m)) (hs : swapsWith e (some (.Name x pos')) pos.line X.env = pure false := by rfl) (hf : X.fn x = true ∨ X.env.scope.names.lookup x = some .local := by first | exact .inl rfl | exact .inr rfl | assumption) :
    PS X (.Assign [.Name x pos'] e pos) (TSt K ct W (evAsg i m)) := (ps_set hN hi hx he hs hf).imp fun D σ H ⟨fr, F, ρ, S, h⟩ => h.dat S fun F1 H1 ρ1 v d s1 S1 r1 h => h.setD S1 r1
theorem w_setC {i : Nat} {D : Ends} (h : TSt K ct W (evAsgC i m) D σ H) : tAsg (TP K ct W m) (gName i) D σ H := by
  obtain ⟨fr, F, ρ, S, h⟩ := h
  refine Sat.bnd K ct h S (fun _ _ _ _ z => z) fun F1 H1 ρ1 v r s1 S1 r1 h => ?_
  cases r with
  | d d => obtain ⟨_, _, e, _⟩ := h; cases e
  | c c => obtain ⟨p, ev, fp⟩ := r1; subst ev; exact Sat.setC h S1 fp
theorem s_setC {i : Nat} {x : Str} (hN : X.N.Nodup) (hi : X.N[i]? = some x) (hx : Loc X.env.scope x) (he : PE X e (TP K ct W m)) (hs : swapsWith e (some (.Name x pos')) pos.line X.env = pure false := by rfl) (hf : X.fn x = true ∨ X.env.scope.names.lookup x = some .local := by first | exact .inl rfl | exact .inr rfl | assumption) :
    PS X (.Assign [.Name x pos'] e pos) (TSt K ct W (evAsgC i m)) := (ps_set hN hi hx he hs hf).imp fun D σ H => w_setC
theorem s_ex (he : PE X e (TP K ct W m)) (hs : swapsWith e none pos.line X.env = pure false := by rfl) : PS X (.Expr e pos) (TSt K ct W (evEx m)) := (ps_expr he hs).imp fun D σ H ⟨fr, F, ρ, S, h⟩ => Sat.bnd K ct h S (fun _ _ _ _ z => z) fun F1 H1 ρ1 v r s1 S1 r1 h => Sat.nx h (Same.refl _) S1
theorem s_ret (he : PE X e (TP K ct W m)) : PS X (.Return (some e) pos) (TSt K ct W (evRet m)) := (ps_ret he).imp fun D σ H ⟨fr, F, ρ, S, h⟩ => Sat.bnd K ct h S (fun _ _ _ _ z => z) fun F1 H1 ρ1 v r s1 S1 r1 ⟨_, _, e, q⟩ => by
  cases e
  exact q σ v F1 H1 (Same.refl _) S1 r1
theorem s_if {c : Expr} {a b : List Stmt} (hc : PT X c (TB K ct W tb)) (ha : PSs X a (TSt K ct W s)) (hb : PSs X b (TSt K ct W t)) : PS X (.If c a b pos) (TSt K ct W (evIf tb s t)) := (ps_if hc ha hb).imp fun D σ H ⟨fr, F, ρ, S, h⟩ =>
  Sat.bnd K ct h S (fun _ _ _ _ z => z) fun F1 H1 ρ1 v c s1 S1 r1 h => by
    cases r1
    cases v with
    | true => rw [if_pos rfl]; exact h.to S1
    | false => rw [if_neg Bool.false_ne_true]; exact h.to S1
end
/-! ### targets -/
inductive Tg | n (i : Nat) | t (ts : List Tg)
mutual
def asgT : Tg → D → M Fl
  | .n i, d => setD i d
  | .t ts, .tup xs => asgTs ts xs
  | .t _, _ => fai
def asgTs : List Tg → List D → M Fl
  | [], [] => pur .nx
  | t :: ts, x :: xs => evSeq (asgT t x) (asgTs ts xs)
  | _, _ => fai
end
mutual
def Tg.sl : Tg → List Nat
  | .n i => [i]
  | .t ts => Tg.sls ts
def Tg.sls : List Tg → List Nat
  | [] => []
  | x :: xs => Tg.sl x ++ Tg.sls xs
end
/-- the slots outside vs are as they were -/
def OutS (vs : List Nat) (σ σ' : L2.St) : Prop := σ'.length = σ.length ∧ ∀ i, i ∉ vs → σ'[i]? = σ[i]?
theorem OutS.refl {vs : List Nat} {σ : L2.St} : OutS vs σ σ := ⟨rfl, fun _ _ => rfl⟩
theorem OutS.trans {vs : List Nat} {σ σ1 σ2 : L2.St} (a : OutS vs σ σ1) (b : OutS vs σ1 σ2) : OutS vs σ σ2 := ⟨b.1.trans a.1, fun i h => (b.2 i h).trans (a.2 i h)⟩
theorem OutS.sub {vs ws : List Nat} {σ σ1 : L2.St} (a : OutS vs σ σ1) (h : ∀ i ∈ vs, i ∈ ws) : OutS ws σ σ1 := ⟨a.1, fun i q => a.2 i fun z => q (h i z)⟩
theorem wipe_get (σ : L2.St) : ∀ (vs : List Nat) (i : Nat), (wipe σ vs)[i]? = if i ∈ vs ∧ i < σ.length then some none else σ[i]?
  | [], i => by simp [wipe]
  | v :: vs, i => by
    have ih := wipe_get σ vs i
    show ((wipe σ vs).set v none)[i]? = _
    by_cases q : v = i
    · subst q
      by_cases l : v < σ.length
      · rw [List.getElem?_set_self (by rw [wipe_length]; exact l), if_pos ⟨List.mem_cons_self, l⟩]
      · rw [List.getElem?_eq_none (by rw [List.length_set, wipe_length]; omega), if_neg (fun z => l z.2), List.getElem?_eq_none (by omega)]
    · rw [List.getElem?_set_ne q, ih]
      by_cases m : i ∈ vs
      · by_cases l : i < σ.length
        · rw [if_pos ⟨m, l⟩, if_pos ⟨List.mem_cons_of_mem _ m, l⟩]
        · rw [if_neg (fun z => l z.2), if_neg (fun z => l z.2)]
      · rw [if_neg (fun z => m z.1), if_neg (fun z => (List.mem_cons.mp z.1).elim (fun w => q w.symm) m)]
theorem OutS.wipe {vs : List Nat} {σ σ' : L2.St} (a : OutS vs σ σ') : L2.wipe σ' vs = L2.wipe σ vs := by
  refine List.ext_getElem? fun i => ?_
  rw [wipe_get, wipe_get, a.1]
  split
  · rfl
  · rename_i h
    by_cases m : i ∈ vs
    · have l : ¬ i < σ.length := fun z => h ⟨m, z⟩
      rw [List.getElem?_eq_none (by rw [a.1]; omega), List.getElem?_eq_none (by omega)]
    · exact a.2 i m
theorem OutS.set {i : Nat} {v : Option V} {σ : L2.St} : OutS [i] σ (σ.set i v) := ⟨by simp, fun j h => List.getElem?_set_ne (fun z => h (by simp [z]))⟩
variable (K ct) in
def TGt (tg : Tg) : TG := fun v σ H Q => ∃ fr F ρ d ρ', Rel K ct fr F H σ ρ ∧ Rp K ct.ad F v d ∧ asgT tg d ρ = some (.ok .nx, ρ') ∧ ∀ σ' F' H', Same F F' → OutS tg.sl σ σ' → Rel K ct fr F' H' σ' ρ' → Q σ' H'
variable (K ct) in
def TGts (tg : List Tg) : TGs := fun vs σ H Q => ∃ fr F ρ ds ρ', Rel K ct fr F H σ ρ ∧ Rps K ct.ad F vs ds ∧ asgTs tg ds ρ = some (.ok .nx, ρ') ∧ ∀ σ' F' H', Same F F' → OutS (Tg.sls tg) σ σ' → Rel K ct fr F' H' σ' ρ' → Q σ' H'
theorem setD_ok {i : Nat} {d : D} {v : V} {ρ' : List Sl} (e : setD i d ρ = some (.ok .nx, ρ')) (S : Rel K ct fr F H σ ρ) (r : Rp K ct.ad F v d) : Rel K ct fr F H (σ.set i (some v)) ρ' := by
  unfold PL.setD at e
  split at e
  · cases e
  · rename_i s hn hs
    cases e
    exact S.setD r (S.npar hs hn)
  · cases e
section
variable {X : Cx} {pos : Pos}
theorem _root_.L2.PGs.imp {es : List Expr} {t t' : TGs} (h : PGs X es t) (w : ∀ v σ H Q, t' v σ H Q → t v σ H Q) : PGs X es t' := ⟨fun pins s σ H v u Q I r q => h.run pins s σ H v u Q I r (w v σ H Q q)⟩
theorem g_n {i : Nat} {x : Str} (hN : X.N.Nodup) (hi : X.N[i]? = some x) (hx : Loc X.env.scope x) (hf : X.fn x = true ∨ X.env.scope.names.lookup x = some .local := by first | exact .inl rfl | exact .inr rfl | assumption) : PG X (.Name x pos) (TGt K ct (.n i)) :=
  (pg_name hN hi hx hf).imp fun v σ H Q ⟨fr, F, ρ, d, ρ', S, r, e, q⟩ => q _ F H (Same.refl _) OutS.set (setD_ok e S r)
theorem gs_n : PGs X [] (TGts K ct []) := pgs_nil.imp fun v σ H Q ⟨fr, F, ρ, ds, ρ', S, r, e, q⟩ => by
  cases ds with
  | nil => cases r; cases e; exact ⟨rfl, q σ F H (Same.refl _) OutS.refl S⟩
  | cons d ds => cases e
theorem gs_c {e : Expr} {es : List Expr} {t : Tg} {ts : List Tg} (h1 : PG X e (TGt K ct t)) (h2 : PGs X es (TGts K ct ts))
    (hs : (assignEach (e :: es) X.env).map (·.2) = assign e X.env :: (assignEach es X.env).map (·.2) := by rfl) : PGs X (e :: es) (TGts K ct (t :: ts)) := (pgs_cons h1 h2 hs).imp fun vs σ H Q ⟨fr, F, ρ, ds, ρ', S, r, e, q⟩ => by
  cases ds with
  | nil => cases e
  | cons d ds =>
    cases r with
    | @cons v _ vs _ r rs =>
      have e : evSeq (asgT t d) (asgTs ts ds) ρ = some (.ok .nx, ρ') := e
      unfold evSeq at e
      split at e
      · rename_i ρ1 h1
        refine ⟨v, vs, rfl, fr, F, ρ, d, ρ1, S, r, h1, fun σ1 F1 H1 s1 o1 S1 => ?_⟩
        exact ⟨fr, F1, ρ1, ds, ρ', S1, rs.mono s1, e, fun σ2 F2 H2 s2 o2 S2 => q σ2 F2 H2 (s1.trans s2) (by rw [Tg.sls]; exact (o1.sub fun i z => List.mem_append_left _ z).trans (o2.sub fun i z => List.mem_append_right _ z)) S2⟩
      · rename_i h1
        exact absurd e (h1 ρ')
theorem g_t {es : List Expr} {k : Nat} {ts : List Tg} (eK : X.K = K) (hc : X.calm = true) (h : PGs X es (TGts K ct ts)) (hn : (assignEach es X.env).length = ts.length := by rfl) (hst : (assignEach es X.env).findIdx? (·.1) = none := by rfl) : PG X (.Tuple es k pos) (TGt K ct (.t ts)) := by
  subst eK
  refine (pg_tup (n := ts.length) hc h hn hst).imp fun v σ H Q ⟨fr, F, ρ, d, ρ', S, r, e, q⟩ => ?_
  cases d with
  | tup xs =>
    cases r with
    | @tup p vs _ h1 k1 =>
      have e : asgTs ts xs ρ = some (.ok .nx, ρ') := e
      have lens : ∀ (ts : List Tg) (xs : List D) (ρ ρ' : List Sl), asgTs ts xs ρ = some (.ok .nx, ρ') → xs.length = ts.length := by
        intro ts
        induction ts with
        | nil => intro xs ρ ρ' e; cases xs with | nil => rfl | cons _ _ => cases e
        | cons t ts ih =>
          intro xs ρ ρ' e
          cases xs with
          | nil => cases e
          | cons x xs =>
            have e : evSeq (asgT t x) (asgTs ts xs) ρ = some (.ok .nx, ρ') := e
            unfold evSeq at e
            split at e
            · rename_i ρ1 h1; rw [List.length_cons, List.length_cons, ih _ _ _ e]
            · rename_i h1; exact absurd e (h1 ρ')
      exact ⟨p, vs, rfl, sameT S.fh h1, by rw [k1.len]; exact lens _ _ _ _ e, fr, F, ρ, xs, ρ', S, k1, e, q⟩
  | _ => cases e
/-- a, b = e -/
def evAsgT (tg : Tg) (e : Ev) : M Fl := bnd (dat e) fun d => fun ρ => match asgT tg d ρ with | some (.ok .nx, ρ') => some (.ok .nx, ρ') | _ => none
theorem s_asgT {tg e : Expr} {t : Tg} {m : Ev} (he : PE X e (TP K ct W m)) (hg : PG X tg (TGt K ct t)) (hs : swapsWithSole [tg] e pos.line X.env = pure false := by rfl) (hw : swappedStores [tg] e X.env = pure none := by rfl)
    (h1 : (assignEach [tg] X.env).map (·.2) = [assign tg X.env] := by rfl) : PS X (.Assign [tg] e pos) (TSt K ct W (evAsgT t m)) := (ps_asg he hg hs hw h1).imp fun D σ H ⟨fr, F, ρ, S, h⟩ => h.dat S fun F1 H1 ρ1 v d s1 S1 r1 ⟨r, ρ', e, q⟩ => by
  have e : (match asgT t d ρ1 with | some (.ok .nx, ρ') => some (Ex.ok Fl.nx, ρ') | _ => none) = some (r, ρ') := e
  split at e
  · rename_i ρ2 h2
    cases e
    exact ⟨fr, F1, ρ1, d, _, S1, r1, h2, fun σ' F' H' s' _ S' => q σ' F' H' s' S'⟩
  · cases e
end
/-! ### loops -/
/-- heaps that grow by new objects -/
def Al (F H F' H' : Hp) : Prop := Same F F' ∧ Same H H' ∧ Same F' H' ∧ ∀ b, H b ≠ none → F b = none → F' b = none
theorem Rel.al (S : Rel K ct fr F H σ ρ) (a : Al F H F' H') : Rel K ct fr F' H' σ ρ := S.grow a.1 a.2.1 a.2.2.1 a.2.2.2
theorem Al.refl (s : Same F H) : Al F H F H := ⟨Same.refl _, Same.refl _, s, fun _ _ z => z⟩
variable (K ad) in
def ItOk (F : Hp) (xs : List D) (J : It) : Prop := ∀ F1 H1, Same F F1 → Same F1 H1 → ∀ i, (∀ x, xs[i]? = some x → J.go i H1 ∧ ∀ v H2, J.yld i H1 v H2 → ∃ F2, Al F1 H1 F2 H2 ∧ Rp K ad F2 v x) ∧ (xs.length ≤ i → J.stop i H1)
variable (K ad) in
def RI : Rel3 It (List D) := fun _ F _ _ _ J xs => ItOk K ad F xs J
variable (K ct) in
abbrev TIt (W : WX) (m : M (List D)) : TI := T K ct (RI K ct.ad) W m
def loop (tg : Tg) (body : M Fl) : List D → M Fl
  | [] => pur .nx
  | x :: xs => fun ρ => match asgT tg x ρ with
    | some (.ok .nx, ρ1) => (match body ρ1 with
      | some (.ok .nx, ρ2) => loop tg body xs ρ2
      | some (.ok .ct, ρ2) => loop tg body xs ρ2
      | some (.ok .bk, ρ2) => some (.ok .nx, ρ2)
      | r => r)
    | _ => none
def evFor (it : M (List D)) (tg : Tg) (body : M Fl) : M Fl := bnd it fun xs => loop tg body xs
theorem w_for {it : M (List D)} {tg : Tg} {body : M Fl} {D : Ends} (h : TSt K ct W (evFor it tg body) D σ H) : tFor (TIt K ct W it) (TGt K ct tg) (TSt K ct W body) D σ H := by
  obtain ⟨fr, F, ρ, S, h⟩ := h
  refine Sat.bnd K ct h S (fun _ _ _ _ z => z) fun F1 H1 ρ1 J xs s1 S1 r1 h => ?_
  refine ⟨fun i m σ H => m = xs.length - i ∧ i ≤ xs.length ∧ ∃ F2 ρ2, Same F1 F2 ∧ Rel K ct fr F2 H σ ρ2 ∧ Sat K ct W D fr F2 ρ2 (loop tg body (xs.drop i)), ⟨xs.length, by simp, Nat.zero_le _, F1, ρ1, Same.refl _, S1, h⟩, ?_⟩
  rintro i m σ2 H2 ⟨rfl, hi, F2, ρ2, s2, S2, h2⟩
  have it := r1 F2 H2 s2 S2.fh i
  by_cases lt : i < xs.length
  · refine .inr ?_
    obtain ⟨go, yl⟩ := it.1 xs[i] (List.getElem?_eq_getElem lt)
    refine ⟨go, fun σ' H' => ∃ F3 ρ3, Same F1 F3 ∧ Rel K ct fr F3 H' σ' ρ3 ∧ Sat K ct W D fr F3 ρ3 (loop tg body (xs.drop (i + 1))), fun σ' H' ⟨F3, ρ3, s3, S3, h3⟩ => ⟨xs.length - (i + 1), by omega, rfl, lt, F3, ρ3, s3, S3, h3⟩, fun v H3 y => ?_⟩
    obtain ⟨F3, al, rp⟩ := yl v H3 y
    have S3 := S2.al al
    rw [List.drop_eq_getElem_cons lt] at h2
    have h2 := Sat.mono h2 al.1
    obtain ⟨r, ρ', e, q⟩ := h2
    unfold loop at e
    cases ea : asgT tg xs[i] ρ2 with
    | none => rw [ea] at e; cases e
    | some x =>
      obtain ⟨rx, ρ4⟩ := x
      rw [ea] at e
      cases rx with
      | er c pl => cases e
      | ok fl =>
        cases fl with
        | nx =>
          refine ⟨fr, F3, ρ2, xs[i], ρ4, S3, rp, ea, fun σ4 F4 H4 s4 _ S4 => ⟨fr, F4, ρ4, S4, ?_⟩⟩
          have e : (match body ρ4 with | some (.ok .nx, ρ2) => loop tg body (xs.drop (i + 1)) ρ2 | some (.ok .ct, ρ2) => loop tg body (xs.drop (i + 1)) ρ2 | some (.ok .bk, ρ2) => some (.ok .nx, ρ2) | r => r) = some (r, ρ') := e
          cases eb : body ρ4 with
          | none => rw [eb] at e; cases e
          | some y =>
            obtain ⟨ry, ρ5⟩ := y
            rw [eb] at e
            have sF : Same F1 F4 := (s2.trans al.1).trans s4
            have next : ∀ (e : loop tg body (xs.drop (i + 1)) ρ5 = some (r, ρ')) σ' F' H', Same F4 F' → Rel K ct fr F' H' σ' ρ5 → ∃ F3 ρ3, Same F1 F3 ∧ Rel K ct fr F3 H' σ' ρ3 ∧ Sat K ct W D fr F3 ρ3 (loop tg body (xs.drop (i + 1))) := fun e σ' F' H' s' S' =>
              ⟨F', ρ5, sF.trans s', S', Sat.mono (F := F3) ⟨r, ρ', e, q⟩ (s4.trans s')⟩
            refine ⟨ry, ρ5, eb, ?_⟩
            cases ry with
            | er c pl => cases e; exact fun σ' d F' H' s' => q σ' d F' H' (s4.trans s')
            | ok fl =>
              cases fl with
              | nx => exact next e
              | ct => exact next e
              | bk => cases e; exact fun σ' F' H' s' => q σ' F' H' (s4.trans s')
              | rt x => cases e; exact fun σ' v F' H' s' => q σ' v F' H' (s4.trans s')
        | _ => cases e
  · refine .inl ⟨it.2 (by omega), ?_⟩
    rw [List.drop_eq_nil_of_le (by omega)] at h2
    exact Sat.nx h2 (Same.refl _) S2
theorem s_for {X : Cx} {tg iter : Expr} {body : List Stmt} {it : M (List D)} {t : Tg} {b : M Fl} {pos : Pos} (hp : PassesOwn (model X.prog X.w) X.A X.env X.xe) (hc : X.calm = true) (hi : PI X tg iter (TIt K ct W it)) (hg : PG X tg (TGt K ct t)) (hb : PSs X body (TSt K ct W b))
    (hs : ∀ x, foldedSetIterable iter X.env x = pure x := by intro _; rfl) : PS X (.For tg iter body [] pos) (TSt K ct W (evFor it t b)) := (ps_for hp hc hi hg hb hs).imp fun D σ H => w_for
/-! while -/
def whl (t : M Bool) (body : M Fl) : Nat → M Fl
  | 0 => fai
  | n + 1 => bnd t fun c => if c then (fun ρ => match body ρ with
      | some (.ok .nx, ρ1) => whl t body n ρ1
      | some (.ok .ct, ρ1) => whl t body n ρ1
      | some (.ok .bk, ρ1) => some (.ok .nx, ρ1)
      | r => r) else pur .nx
open Classical in
/-- what a while that ends gives -/
noncomputable def evWhl (t : M Bool) (body : M Fl) : M Fl := fun ρ => if h : ∃ n r, whl t body n ρ = some r then some h.choose_spec.choose else none
end PL
end
section
namespace PL
open PySem PySem.Spec PyProof.Rows L2
variable {K : PySem.W.Frag} {ad : Cl → Addr} {ct : CT}
variable {fr : Fr} {F F' H H' : Hp} {σ : L2.St} {ρ : List Sl} {W : WX}
/-! ### what is walked -/
def D.litems : D → Option (List D) | .lst xs => some xs | .sq xs => some xs | _ => none
def D.titems : D → Option (List D) | .tup xs => some xs | _ => none
def chars (z : Str) : List D := z.cps.toList.map fun c => .str ⟨#[c]⟩
def D.sitems : D → Option (List D) | .str z => some (chars z) | _ => none
def itL (e : Ev) : M (List D) := bnd (dat e) fun d => opt d.litems
def itT (e : Ev) : M (List D) := bnd (dat e) fun d => opt d.titems
def itS (e : Ev) : M (List D) := bnd (dat e) fun d => opt d.sitems
def rngD (lo : Int) (n : Nat) : List D := (List.range n).map fun (i : Nat) => .int (lo + i)
def itR1 (e : Ev) : M (List D) := bnd (dat e) fun d => match d with | .int j => if -(2 ^ 62) ≤ j ∧ j < 2 ^ 62 then pur (rngD 0 j.toNat) else fai | _ => fai
def itR2 (a b : Ev) : M (List D) := bnd (dat a) fun x => bnd (dat b) fun y => match x, y with
  | .int i, .int j => if -(2 ^ 62) ≤ i ∧ i < 2 ^ 62 ∧ -(2 ^ 62) ≤ j ∧ j < 2 ^ 62 then pur (rngD i (j - i).toNat) else fai
  | _, _ => fai
theorem it_lst {K : PySem.W.Frag} {p : Addr} {vs : List V} {xs : List D} (h : SqL K F p vs) (r : Rps K ct.ad F vs xs) : ItOk K ct.ad F xs (Itl K p) := by
  intro F1 H1 s1 s2 i
  have h1 : SqL K H1 p vs := (s1.trans s2).seq h
  refine ⟨fun x e => ?_, fun l => ⟨vs, h1, by rw [r.len]; exact l⟩⟩
  obtain ⟨v, e1, e2⟩ := r.get e
  refine ⟨⟨vs, v, h1, e1⟩, fun u H2 y => ?_⟩
  obtain ⟨y1, y2⟩ := y
  subst y1
  have := y2 vs h1
  rw [e1] at this
  cases this
  exact ⟨F1, Al.refl s2, e2.mono s1⟩
theorem it_tup {K : PySem.W.Frag} {p : Addr} {vs : List V} {xs : List D} (h : SqT K F p vs) (r : Rps K ct.ad F vs xs) : ItOk K ct.ad F xs (Itt K p) := by
  intro F1 H1 s1 s2 i
  have h1 : SqT K H1 p vs := sameT (s1.trans s2) h
  refine ⟨fun x e => ?_, fun l => ⟨vs, h1, by rw [r.len]; exact l⟩⟩
  obtain ⟨v, e1, e2⟩ := r.get e
  refine ⟨⟨vs, v, h1, e1⟩, fun u H2 y => ?_⟩
  obtain ⟨y1, y2⟩ := y
  subst y1
  have := y2 vs h1
  rw [e1] at this
  cases this
  exact ⟨F1, Al.refl s2, e2.mono s1⟩
theorem it_rng {lo : Int} {n : Nat} : ItOk K ct.ad F (rngD lo n) (Itr lo n) := by
  intro F1 H1 s1 s2 i
  refine ⟨fun x e => ?_, fun l => by unfold rngD at l; rw [List.length_map, List.length_range] at l; exact l⟩
  unfold rngD at e
  rw [List.getElem?_map] at e
  obtain ⟨j, e1, e2⟩ := Option.map_eq_some_iff.mp e
  obtain ⟨l, e3⟩ := List.getElem?_eq_some_iff.mp e1
  rw [List.length_range] at l
  rw [List.getElem_range] at e3
  subst e3
  subst e2
  refine ⟨l, fun v H2 y => ?_⟩
  obtain ⟨y1, y2⟩ := y
  subst y1 y2
  exact ⟨F1, Al.refl s2, .int _⟩
theorem it_str {z : Str} : ItOk K ct.ad F (chars z) (Its z) := by
  intro F1 H1 s1 s2 i
  refine ⟨fun x e => ?_, fun l => by unfold chars at l; rw [List.length_map, Array.length_toList] at l; exact l⟩
  unfold chars at e
  rw [List.getElem?_map] at e
  obtain ⟨c, e1, e2⟩ := Option.map_eq_some_iff.mp e
  subst e2
  have e1' : z.cps[i]? = some c := by rw [← Array.getElem?_toList]; exact e1
  refine ⟨(Array.getElem?_eq_some_iff.mp e1').1, fun v H2 y => ?_⟩
  obtain ⟨y1, c', y2, y3⟩ := y
  rw [e1'] at y2
  cases y2
  subst y1 y3
  exact ⟨F1, Al.refl s2, .str _⟩
section
variable {X : Cx} {tg l : Expr} {m : Ev}
theorem pi_l (eK : X.K = K) (hl : PE X l (TP K ct W m)) : PI X tg l (TIt K ct W (itL m)) := by
  subst eK
  refine (pi_list hl).imp fun σ H R h => ?_
  obtain ⟨fr, F, ρ, S, h⟩ := h
  refine Tat.dat h S fun F1 H1 ρ1 v d s1 S1 r1 h => ?_
  obtain ⟨xs, e1, q⟩ := h.opt
  cases d <;> cases e1
  · cases r1 with | lst h k => exact ⟨_, rfl, ⟨_, SqL.of (S1.fh _ _ h)⟩, q _ F1 H1 (Same.refl _) S1 (it_lst (SqL.of h) k)⟩
  · cases r1 with | sq h k => exact ⟨_, rfl, ⟨_, S1.fh.seq h⟩, q _ F1 H1 (Same.refl _) S1 (it_lst h k)⟩
theorem pi_t (eK : X.K = K) (hl : PE X l (TP K ct W m)) : PI X tg l (TIt K ct W (itT m)) := by
  subst eK
  refine (pi_tup hl).imp fun σ H R h => ?_
  obtain ⟨fr, F, ρ, S, h⟩ := h
  refine Tat.dat h S fun F1 H1 ρ1 v d s1 S1 r1 h => ?_
  obtain ⟨xs, e1, q⟩ := h.opt
  cases d <;> cases e1
  cases r1 with | tup h k => exact ⟨_, rfl, ⟨_, sameT S1.fh h⟩, q _ F1 H1 (Same.refl _) S1 (it_tup h k)⟩
theorem pi_s (hl : PE X l (TP K ct W m)) : PI X tg l (TIt K ct W (itS m)) := by
  refine (pi_str hl).imp fun σ H R h => ?_
  obtain ⟨fr, F, ρ, S, h⟩ := h
  refine Tat.dat h S fun F1 H1 ρ1 v d s1 S1 r1 h => ?_
  obtain ⟨xs, e1, q⟩ := h.opt
  cases d <;> cases e1
  rename_i z
  cases r1
  exact ⟨z, rfl, q _ F1 H1 (Same.refl _) S1 it_str⟩
theorem pi_r1 {a : Expr} {p pos : Pos} {m : Ev} (hg : Gl X "range") (hm : X.mg "range" = none) (ha : PE X a (TP K ct W m)) (hs : starEach [a] X.env = [(false, eval a X.env)] := by rfl) : PI X tg (.Call (.Name "range" p) [a] [] pos) (TIt K ct W (itR1 m)) := by
  refine (pi_range1 hg hm (pa_cons ha pa_nil (by rw [hs]; rfl)) hs).imp fun σ H R h => ?_
  obtain ⟨fr, F, ρ, S, h⟩ := h
  refine Tat.dat h S fun F1 H1 ρ1 v d s1 S1 r1 h => ?_
  cases d with
  | int j =>
    cases r1
    have h : Tat K ct (RI K ct.ad) W fr F1 ρ1 (if -(2 ^ 62) ≤ j ∧ j < 2 ^ 62 then pur (rngD 0 j.toNat) else fai) σ R := h
    split at h
    · rename_i c
      exact ⟨j, rfl, c.1, c.2, Tat.ok h _ F1 H1 (Same.refl _) S1 it_rng⟩
    · obtain ⟨_, _, e, _⟩ := h; cases e
  | _ => obtain ⟨_, _, e, _⟩ := h; cases e
theorem pi_r2 {a b : Expr} {p pos : Pos} {m n : Ev} (hg : Gl X "range") (hm : X.mg "range" = none) (ha : PE X a (TP K ct W m)) (hb : PE X b (TP K ct W n)) (hs : starEach [a, b] X.env = [(false, eval a X.env), (false, eval b X.env)] := by rfl) (hs2 : starEach [b] X.env = [(false, eval b X.env)] := by rfl) : PI X tg (.Call (.Name "range" p) [a, b] [] pos) (TIt K ct W (itR2 m n)) := by
  refine (pi_range2 hg hm (pa_cons ha (pa_cons hb pa_nil (by rw [hs2]; rfl)) (by rw [hs, hs2])) hs hs2).imp fun σ H R h => ?_
  obtain ⟨fr, F, ρ, S, h⟩ := h
  refine Tat.dat h S fun F1 H1 ρ1 v d s1 S1 r1 h => ?_
  refine Tat.dat h S1 fun F2 H2 ρ2 u e s2 S2 r2 h => ?_
  have r1 := r1.mono s2
  cases d with
  | int i =>
    cases e with
    | int j =>
      cases r1
      cases r2
      have h : Tat K ct (RI K ct.ad) W fr F2 ρ2 (if -(2 ^ 62) ≤ i ∧ i < 2 ^ 62 ∧ -(2 ^ 62) ≤ j ∧ j < 2 ^ 62 then pur (rngD i (j - i).toNat) else fai) σ R := h
      split at h
      · rename_i c
        exact ⟨i, j, rfl, c, Tat.ok h _ F2 H2 (Same.refl _) S2 it_rng⟩
      · obtain ⟨_, _, e, _⟩ := h; cases e
    | _ => obtain ⟨_, _, e, _⟩ := h; cases e
  | _ => obtain ⟨_, _, e, _⟩ := h; cases e
end
/-! ### comprehensions -/
def wipeR (ρ : List Sl) : List Nat → List Sl
  | [] => ρ
  | v :: vs => (wipeR ρ vs).set v .un
def okOwn (ρ : List Sl) (vs : List Nat) : Bool := vs.all fun v => match ρ[v]? with | some (.cel _ _) => false | some (.exn _ _) => false | _ => true
def restR (ρ0 ρ : List Sl) : List Nat → List Sl
  | [] => ρ
  | v :: vs => (restR ρ0 ρ vs).set v ((ρ0[v]?).getD .un)
def lcGo (vs : List Nat) (tg : Tg) (c : M Bool) (e : Ev) : List D → List D → M (List D)
  | [], acc => pur acc
  | x :: xs, acc => fun ρ => match asgT tg x ρ with
    | some (.ok .nx, ρ1) => bnd (noEr c) (fun b => if b then bnd (dat (noEr e)) (fun d => if acc.length < 16777216 then (fun ρ => lcGo vs tg c e xs (acc ++ [d]) (wipeR ρ vs)) else fai) else fun ρ => lcGo vs tg c e xs acc (wipeR ρ vs)) ρ1
    | _ => none
def lcRun (vs : List Nat) (m : List D → List D → M (List D)) (xs : List D) : Ev := fun ρ => if okOwn ρ vs then match m xs [] (wipeR ρ vs) with
    | some (.ok acc, ρ') => some (.ok (.c (.lst acc)), restR ρ ρ' vs)
    | _ => none
  else none
def evLc (vs : List Nat) (it : M (List D)) (tg : Tg) (c : M Bool) (e : Ev) : Ev := bnd it fun xs => lcRun vs (lcGo vs tg c e) xs
theorem okOwn_np {vs : List Nat} (S : Rel K ct fr F H σ ρ) (h : okOwn ρ vs = true) : ∀ v ∈ vs, fr.pa v = none := fun v hv => by
  have h1 := List.all_eq_true.mp h v hv
  cases z : fr.pa v with
  | none => rfl
  | some p =>
    obtain ⟨k, c, e, _⟩ := S.pcs v p z
    rw [e] at h1
    cases h1
theorem Rel.wipe : ∀ {vs : List Nat}, Rel K ct fr F H σ ρ → (∀ v ∈ vs, fr.pa v = none) → Rel K ct fr F H (L2.wipe σ vs) (wipeR ρ vs)
  | [], S, _ => S
  | v :: vs, S, h => (Rel.wipe S fun x hx => h x (List.mem_cons_of_mem _ hx)).setU (h v List.mem_cons_self)
theorem restR_len (ρ0 ρ : List Sl) : ∀ vs : List Nat, (restR ρ0 ρ vs).length = ρ.length
  | [] => rfl
  | v :: vs => by unfold restR; rw [List.length_set, restR_len ρ0 ρ vs]
theorem restR_get (ρ0 ρ : List Sl) : ∀ (vs : List Nat) (i : Nat), (restR ρ0 ρ vs)[i]? = if i ∈ vs ∧ i < ρ.length then some ((ρ0[i]?).getD .un) else ρ[i]?
  | [], i => by simp [restR]
  | v :: vs, i => by
    have ih := restR_get ρ0 ρ vs i
    show ((restR ρ0 ρ vs).set v ((ρ0[v]?).getD .un))[i]? = _
    by_cases q : v = i
    · subst q
      by_cases l : v < ρ.length
      · rw [List.getElem?_set_self (by rw [restR_len]; exact l), if_pos ⟨List.mem_cons_self, l⟩]
      · rw [List.getElem?_eq_none (by rw [List.length_set, restR_len]; omega), if_neg (fun z => l z.2), List.getElem?_eq_none (by omega)]
    · rw [List.getElem?_set_ne q, ih]
      by_cases m : i ∈ vs
      · by_cases l : i < ρ.length
        · rw [if_pos ⟨m, l⟩, if_pos ⟨List.mem_cons_of_mem _ m, l⟩]
        · rw [if_neg (fun z => l z.2), if_neg (fun z => l z.2)]
      · rw [if_neg (fun z => m z.1), if_neg (fun z => (List.mem_cons.mp z.1).elim (fun w => q w.symm) m)]
/-- back from a block -/
theorem Rel.rest {vs : List Nat} {F0 H0 : Hp} {ρ0 : List Sl} (S0 : Rel K ct fr F0 H0 σ ρ0) (s : Same F0 F) (ok : okOwn ρ0 vs = true) (S : Rel K ct fr F H (L2.wipe σ vs) ρ) : Rel K ct fr F H σ (restR ρ0 ρ vs) := by
  have lr : ρ.length = ρ0.length := by rw [← S.len, wipe_length, S0.len]
  have out : ∀ {i : Nat}, i ∉ vs → (L2.wipe σ vs)[i]? = σ[i]? := fun {i} h => by rw [wipe_get, if_neg (fun z => h z.1)]
  have nc : ∀ {i : Nat} {k : CK} {c : CC}, (restR ρ0 ρ vs)[i]? = some (.cel k c) → i ∉ vs ∧ ρ[i]? = some (.cel k c) := fun {i k c} e => by
    rw [restR_get] at e
    split at e
    · rename_i h
      have h1 := List.all_eq_true.mp ok i h.1
      cases q : ρ0[i]? with
      | none =>
        rw [q] at e
        cases e
      | some x =>
        rw [q] at e h1
        have e : some x = some (Sl.cel k c) := e
        cases e
        cases h1
    · rename_i h
      refine ⟨fun m => h ⟨m, (List.getElem?_eq_some_iff.mp e).1⟩, e⟩
  refine ⟨by rw [restR_len, lr]; exact S0.len, S.fh, fun i s0 e => ?_, fun i j k c k' c' p e1 e2 h1 h2 => ?_, S.keep, S.fro, fun i p e => ?_⟩
  · rw [restR_get] at e
    split at e
    · rename_i h
      cases q : ρ0[i]? with
      | none =>
        rw [q] at e
        cases e
        have := List.getElem?_eq_none_iff.mp q
        omega
      | some x =>
        rw [q] at e
        have e : some x = some s0 := e
        cases e
        have h1 := List.all_eq_true.mp ok i h.1
        rw [q] at h1
        obtain ⟨o, g1, g2⟩ := S0.slot i _ q
        refine ⟨o, g1, ?_⟩
        cases s0 with
        | un => trivial
        | dat d => obtain ⟨v, a1, a2⟩ := g2; exact ⟨v, a1, a2.mono s⟩
        | cel k c => cases h1
        | exn c pl => cases h1
    · rename_i h
      have m : i ∉ vs := fun m => h ⟨m, (List.getElem?_eq_some_iff.mp e).1⟩
      obtain ⟨o, g1, g2⟩ := S.slot i s0 e
      rw [out m] at g1
      exact ⟨o, g1, g2⟩
  · obtain ⟨m1, f1⟩ := nc e1
    obtain ⟨m2, f2⟩ := nc e2
    rw [← out m1] at h1
    rw [← out m2] at h2
    exact S.dis i j _ _ _ _ p f1 f2 h1 h2
  · obtain ⟨k, c, h1, h2⟩ := S.pcs i p e
    refine ⟨k, c, ?_, h2⟩
    rw [restR_get, if_neg]
    · exact h1
    · intro z
      have := okOwn_np S0 ok i z.1
      rw [e] at this
      cases this
/-- the new list stands aside -/
def Fr.prot (fr : Fr) (D : Addr) (o : HO) : Fr := { fr with P := upd fr.P D o, F0 := fun b => if b = D then none else fr.F0 b }
theorem Rel.prot (S : Rel K ct fr F H σ ρ) {D : Addr} {o : HO} (h : H D = none) : Rel K ct (fr.prot D o) F (upd H D o) σ ρ := by
  have S1 := S.newC (o := o) h
  have fD := S.nn h
  have cD : ∀ {i : Nat} {k : CK} {c : CC} {p : Addr}, ρ[i]? = some (.cel k c) → σ[i]? = some (some (.ref p)) → p ≠ D := fun {i k c p} e1 e2 z => by
    obtain ⟨p', o', g1, g2⟩ := S.cell_at e1
    rw [g1] at e2
    cases e2
    rw [z, h] at g2
    cases g2
  refine ⟨S1.len, S1.fh, fun i s e => ?_, S1.dis, fun b u e => ?_, fun b hb h0 => ?_, S1.pcs⟩
  · obtain ⟨u, g1, g2⟩ := S1.slot i s e
    refine ⟨u, g1, ?_⟩
    cases s with
    | un => trivial
    | dat d => exact g2
    | cel k c =>
      obtain ⟨p, a1, a2, a3, a4, a5, a6⟩ := g2
      subst a1
      refine ⟨p, rfl, a2, ?_, a4, a5, a6⟩
      show upd fr.P D o p = none
      rw [upd_ne (cD e g1)]
      exact a3
    | exn c pl => exact g2
  · have e : upd fr.P D o b = some u := e
    by_cases q : b = D
    · subst q; rw [upd_same] at e; rw [upd_same]; exact e
    · rw [upd_ne q] at e; rw [upd_ne q]; exact S.keep b u e
  · by_cases q : b = D
    · subst q; exact fD
    · have h0 : (if b = D then none else fr.F0 b) = none := h0
      rw [if_neg q] at h0
      have hb : upd fr.P D o b ≠ none := hb
      rw [upd_ne q] at hb
      exact S.fro b hb h0
theorem Rel.protD {D : Addr} {o : HO} (S : Rel K ct (fr.prot D o) F H σ ρ) : F D = none ∧ H D = some o := by
  refine ⟨S.fro D ?_ ?_, S.keep D o ?_⟩
  · show upd fr.P D o D ≠ none
    rw [upd_same]; simp
  · show (if D = D then none else fr.F0 D) = none
    rw [if_pos rfl]
  · show upd fr.P D o D = some o
    rw [upd_same]
/-- the new list grows -/
theorem Rel.reprot {D : Addr} {o o' : HO} (S : Rel K ct (fr.prot D o) F H σ ρ) : Rel K ct (fr.prot D o') F (upd H D o') σ ρ := by
  obtain ⟨fD, hD⟩ := S.protD
  have ne : ∀ {b : Addr} {u : HO}, F b = some u → b ≠ D := fun {b u} e z => by rw [z, fD] at e; cases e
  refine ⟨S.len, fun b u e => by rw [upd_ne (ne e)]; exact S.fh b u e, fun i s e => ?_, S.dis, fun b u e => ?_, fun b hb h0 => ?_, S.pcs⟩
  · obtain ⟨u, g1, g2⟩ := S.slot i s e
    refine ⟨u, g1, ?_⟩
    cases s with
    | un => trivial
    | dat d => exact g2
    | cel k c =>
      obtain ⟨p, a1, a2, a3, a4, a5, a6⟩ := g2
      subst a1
      have pD : p ≠ D := fun z => by
        have a3 : upd fr.P D o p = none := a3
        rw [z, upd_same] at a3
        cases a3
      refine ⟨p, rfl, a2, ?_, a4, a5, a6.keep (Same.refl _) (by rw [upd_ne pD])⟩
      have a3 : upd fr.P D o p = none := a3
      show upd fr.P D o' p = none
      rw [upd_ne pD] at a3 ⊢
      exact a3
    | exn c pl => exact g2
  · have e : upd fr.P D o' b = some u := e
    by_cases q : b = D
    · subst q; rw [upd_same] at e; rw [upd_same]; exact e
    · rw [upd_ne q] at e; rw [upd_ne q]; exact S.keep b u (by show upd fr.P D o b = some u; rw [upd_ne q]; exact e)
  · refine S.fro b ?_ h0
    have hb : upd fr.P D o' b ≠ none := hb
    show upd fr.P D o b ≠ none
    by_cases q : b = D
    · subst q; rw [upd_same]; simp
    · rw [upd_ne q] at hb ⊢; exact hb
/-- the new list is done -/
theorem Rel.unprot {D : Addr} {o : HO} {c : CC} (hP : fr.P D = none) (hp : ∀ j, fr.pa j ≠ some D) (S : Rel K ct (fr.prot D o) F H σ ρ) (r : CelR K ct.ad F H D c) : Rel K ct fr F H σ ρ ∧ Fresh K ct.ad fr F H σ ρ D c := by
  obtain ⟨fD, hD⟩ := S.protD
  have nP : ∀ {p : Addr}, (fr.prot D o).P p = none → p ≠ D ∧ fr.P p = none := fun {p} z => by
    have z : upd fr.P D o p = none := z
    by_cases q : p = D
    · subst q; rw [upd_same] at z; cases z
    · rw [upd_ne q] at z; exact ⟨q, z⟩
  refine ⟨⟨S.len, S.fh, fun i s e => ?_, S.dis, fun b u e => S.keep b u ?_, fun b hb h0 => ?_, S.pcs⟩, fD, hP, hp, r, fun i k c' e1 e2 => ?_⟩
  · obtain ⟨u, g1, g2⟩ := S.slot i s e
    refine ⟨u, g1, ?_⟩
    cases s with
    | un => trivial
    | dat d => exact g2
    | cel k c => obtain ⟨p, a1, a2, a3, a4, a5, a6⟩ := g2; exact ⟨p, a1, a2, (nP a3).2, a4, a5, a6⟩
    | exn c pl => exact g2
  · show upd fr.P D o b = some u
    rw [upd_ne (fun z => by rw [z, hP] at e; cases e)]; exact e
  · have q : b ≠ D := fun z => hb (by rw [z]; exact hP)
    refine S.fro b ?_ ?_
    · show upd fr.P D o b ≠ none
      rw [upd_ne q]; exact hb
    · show (if b = D then none else fr.F0 b) = none
      rw [if_neg q]; exact h0
  · obtain ⟨u, g1, p, a1, a2, a3, a4, a5, a6⟩ := S.slot i _ e1
    rw [g1] at e2
    subst a1
    cases e2
    exact (nP a3).1 rfl
theorem noErI {α : Type} {m : M α} {r : Ex α} {ρ1 : List Sl} (h : noEr m ρ = some (r, ρ1)) : ∃ a, r = .ok a ∧ m ρ = some (.ok a, ρ1) := by
  unfold noEr at h
  split at h
  · rename_i a ρ' e; cases h; exact ⟨a, rfl, e⟩
  · cases h
theorem bndI {α β : Type} {m : M α} {k : α → M β} {r : Ex β × List Sl} (h : bnd (noEr m) k ρ = some r) : ∃ a ρ1, m ρ = some (.ok a, ρ1) ∧ k a ρ1 = some r := by
  unfold bnd at h
  cases e : noEr m ρ with
  | none =>
    rw [e] at h
    cases h
  | some x =>
    obtain ⟨r1, ρ1⟩ := x
    obtain ⟨a, rfl, e2⟩ := noErI e
    rw [e] at h
    exact ⟨a, ρ1, e2, h⟩
theorem datI {β : Type} {m : Ev} {k : D → M β} {r : Ex β × List Sl} (h : bnd (dat (noEr m)) k ρ = some r) : (∃ d ρ1, m ρ = some (.ok (.d d), ρ1) ∧ k d ρ1 = some r) ∨ ∃ c d ρ1, m ρ = some (.ok (.c c), ρ1) ∧ c.froz = some d ∧ k d ρ1 = some r := by
  have e : bnd (dat (noEr m)) k = bnd (noEr m) fun r => bnd (match r with | Rv.d d => pur d | Rv.c c => PL.opt c.froz) k := by
    funext ρ
    unfold PL.dat PL.bnd
    cases em : noEr m ρ with
    | none => rfl
    | some x =>
      obtain ⟨r1, ρ1⟩ := x
      cases r1 with
      | ok a => cases a <;> rfl
      | er c pl => rfl
  rw [e] at h
  obtain ⟨a, ρ1, h1, h2⟩ := bndI h
  cases a with
  | d d => exact .inl ⟨d, ρ1, h1, h2⟩
  | c c =>
    cases ef : c.froz with
    | none => rw [show bnd (match Rv.c c with | Rv.d d => pur d | Rv.c c => PL.opt c.froz) k ρ1 = bnd (PL.opt c.froz) k ρ1 from rfl, ef] at h2; cases h2
    | some d =>
      rw [show bnd (match Rv.c c with | Rv.d d => pur d | Rv.c c => PL.opt c.froz) k ρ1 = bnd (PL.opt c.froz) k ρ1 from rfl, ef] at h2
      exact .inr ⟨c, d, ρ1, h1, ef, h2⟩
abbrev WF : WX := fun _ _ _ _ => False
theorem wipe_wipe (σ : L2.St) (vs : List Nat) : L2.wipe (L2.wipe σ vs) vs = L2.wipe σ vs := by
  refine List.ext_getElem? fun i => ?_
  rw [wipe_get, wipe_get, wipe_length]
  by_cases h : i ∈ vs ∧ i < σ.length
  · rw [if_pos h, if_pos h]
  · rw [if_neg h, if_neg h]
theorem w_lc {vs : List Nat} {it : M (List D)} {tg : Tg} {c : M Bool} {e : Ev} {Q : VK} (hv : ∀ i ∈ tg.sl, i ∈ vs) (h : TP K ct W (evLc vs it tg c e) σ H Q) : tLc (TIt K ct W it) (TGt K ct tg) (TB K ct WF c) (TP K ct WF e) vs σ H Q := by
  obtain ⟨fr, F, ρ, S, h⟩ := h
  refine Tat.bnd h S fun F1 H1 ρ1 J xs s1 S1 r1 h => ?_
  intro D hD
  obtain ⟨r0, ρ0, e0, q0⟩ := h
  unfold lcRun at e0
  split at e0
  · rename_i ok
    have np := okOwn_np S1 ok
    cases ego : lcGo vs tg c e xs [] (wipeR ρ1 vs) with
    | none => rw [ego] at e0; cases e0
    | some y =>
      obtain ⟨ry, ρf⟩ := y
      rw [ego] at e0
      cases ry with
      | er c pl => cases e0
      | ok accf =>
        cases e0
        have dP := S1.np hD
        have dp : ∀ j, fr.pa j ≠ some D := fun j => (S1.fresh (o := .lst []) (c := .lst []) hD ⟨[], upd_same, .nil⟩).2.2.1 j
        refine ⟨fun i m H => m = xs.length - i ∧ i ≤ xs.length ∧ ∃ F2 ρ2 vacc acc, Same F1 F2 ∧ Rps K ct.ad F2 vacc acc ∧ Rel K ct (fr.prot D (.lst vacc)) F2 H (L2.wipe σ vs) ρ2 ∧ lcGo vs tg c e (xs.drop i) acc ρ2 = some (.ok accf, ρf),
          ⟨xs.length, by simp, Nat.zero_le _, F1, _, [], [], Same.refl _, .nil, (S1.wipe np).prot hD, ego⟩, ?_⟩
        rintro i m H2 ⟨rfl, hi, F2, ρ2, vacc, acc, s2, ra, S2, eg⟩
        have it := r1 F2 H2 s2 S2.fh i
        by_cases lt : i < xs.length
        · refine .inr ?_
          obtain ⟨go, yl⟩ := it.1 xs[i] (List.getElem?_eq_getElem lt)
          refine ⟨go, fun H' => ∃ F2 ρ2 vacc acc, Same F1 F2 ∧ Rps K ct.ad F2 vacc acc ∧ Rel K ct (fr.prot D (.lst vacc)) F2 H' (L2.wipe σ vs) ρ2 ∧ lcGo vs tg c e (xs.drop (i + 1)) acc ρ2 = some (.ok accf, ρf), fun H' z => ⟨xs.length - (i + 1), by omega, rfl, lt, z⟩, fun v H3 y => ?_⟩
          obtain ⟨F3, al, rp⟩ := yl v H3 y
          have S3 := S2.al al
          rw [List.drop_eq_getElem_cons lt] at eg
          unfold lcGo at eg
          cases ea : asgT tg xs[i] ρ2 with
          | none => rw [ea] at eg; cases eg
          | some x =>
            obtain ⟨rx, ρ4⟩ := x
            rw [ea] at eg
            cases rx with
            | er c pl => cases eg
            | ok fl =>
              cases fl with
              | nx =>
                refine ⟨fr.prot D (.lst vacc), F3, ρ2, xs[i], ρ4, S3, rp, ea, fun σ4 F4 H4 s4 o4 S4 => ⟨?_, ?_⟩⟩
                · rw [(o4.sub hv).wipe, wipe_wipe]
                · have wk : L2.wipe σ4 vs = L2.wipe σ vs := by rw [(o4.sub hv).wipe, wipe_wipe]
                  have back : ∀ {F5 H5 ρ5 vacc' acc'}, Same F4 F5 → Rps K ct.ad F5 vacc' acc' → Rel K ct (fr.prot D (.lst vacc')) F5 H5 σ4 ρ5 → lcGo vs tg c e (xs.drop (i + 1)) acc' (wipeR ρ5 vs) = some (.ok accf, ρf) →
                      ∃ F2 ρ2 vacc acc, Same F1 F2 ∧ Rps K ct.ad F2 vacc acc ∧ Rel K ct (fr.prot D (.lst vacc)) F2 H5 (L2.wipe σ vs) ρ2 ∧ lcGo vs tg c e (xs.drop (i + 1)) acc ρ2 = some (.ok accf, ρf) := fun {F5 H5 ρ5 vacc' acc'} s5 ra5 S5 e5 =>
                    ⟨F5, _, vacc', acc', ((s2.trans al.1).trans s4).trans s5, ra5, by rw [← wk]; exact S5.wipe np, e5⟩
                  have eg : bnd (noEr c) (fun b => if b then bnd (dat (noEr e)) (fun d => if acc.length < 16777216 then (fun ρ => lcGo vs tg c e (xs.drop (i + 1)) (acc ++ [d]) (wipeR ρ vs)) else fai) else fun ρ => lcGo vs tg c e (xs.drop (i + 1)) acc (wipeR ρ vs)) ρ4 = some (.ok accf, ρf) := eg
                  obtain ⟨b, ρ5, ec, eg⟩ := bndI eg
                  refine ⟨fr.prot D (.lst vacc), F4, ρ4, S4, .ok b, ρ5, ec, fun v F5 H5 s5 S5 rb => ?_⟩
                  have rb : v = b := rb
                  subst rb
                  cases v with
                  | false =>
                    show if false = true then _ else _
                    (rw [if_neg Bool.false_ne_true])
                    exact back s5 (ra.mono (((al.1).trans s4).trans s5)) S5 eg
                  | true =>
                    show if true = true then _ else _
                    rw [if_pos rfl]
                    have fin : ∀ {d ρ6}, (if acc.length < 16777216 then (fun ρ => lcGo vs tg c e (xs.drop (i + 1)) (acc ++ [d]) (wipeR ρ vs)) else fai) ρ6 = some (Ex.ok accf, ρf) → acc.length < 16777216 ∧ lcGo vs tg c e (xs.drop (i + 1)) (acc ++ [d]) (wipeR ρ6 vs) = some (.ok accf, ρf) := fun {d ρ6} z => by
                      split at z
                      · rename_i w; exact ⟨w, z⟩
                      · cases z
                    rcases datI eg with ⟨d, ρ6, ee, eg⟩ | ⟨cc, d, ρ6, ee, ef, eg⟩
                    · obtain ⟨al6, eg⟩ := fin eg
                      refine ⟨fr.prot D (.lst vacc), F5, ρ5, S5, _, ρ6, ee, fun v F6 H6 s6 S6 rv => ?_⟩
                      have rv : Rp K ct.ad F6 v d := rv
                      exact ⟨vacc, S6.protD.2, by rw [ra.len]; exact al6, back (s5.trans s6) ((ra.mono (((al.1.trans s4).trans s5).trans s6)).snoc rv) S6.reprot eg⟩
                    · obtain ⟨al6, eg⟩ := fin eg
                      refine ⟨fr.prot D (.lst vacc), F5, ρ5, S5, _, ρ6, ee, fun v F6 H6 s6 S6 rv => ?_⟩
                      obtain ⟨p, ev, fp⟩ := rv
                      subst ev
                      obtain ⟨F7, s7, rp7, S7⟩ := fp.frz S6 ef
                      exact ⟨vacc, S7.protD.2, by rw [ra.len]; exact al6, back ((s5.trans s6).trans s7) ((ra.mono ((((al.1.trans s4).trans s5).trans s6).trans s7)).snoc rp7) S7.reprot eg⟩
              | _ => cases eg
        · refine .inl ⟨it.2 (by omega), ?_⟩
          rw [List.drop_eq_nil_of_le (by omega)] at eg
          have eg : pur acc ρ2 = some (.ok accf, ρf) := eg
          cases eg
          obtain ⟨S5, fr5⟩ := S2.unprot dP dp (c := .lst accf) ⟨vacc, S2.protD.2, ra⟩
          have S6 := S1.rest s2 ok S5
          refine q0 _ F2 H2 s2 S6 ⟨D, rfl, fr5.1, fr5.2.1, fr5.2.2.1, fr5.2.2.2.1, fun j k c' z1 z2 => ?_⟩
          obtain ⟨p', o', g1, g2⟩ := S6.cell_at z1
          rw [g1] at z2
          cases z2
          rw [restR_get] at z1
          split at z1
          · rename_i w
            have h1 := List.all_eq_true.mp ok j w.1
            cases q : ρ1[j]? with
            | none => rw [q] at z1; cases z1
            | some x =>
              rw [q] at z1 h1
              have z1 : some x = some (Sl.cel k c') := z1
              cases z1
              cases h1
          · rename_i w
            have m : j ∉ vs := fun m => w ⟨m, (List.getElem?_eq_some_iff.mp z1).1⟩
            refine fr5.2.2.2.2 j k c' z1 ?_
            rw [wipe_get, if_neg (fun z => m z.1)]
            exact g1
  · cases e0
end PL
end
section
namespace PL
open PySem PySem.Spec PyProof.Rows L2
variable {K : PySem.W.Frag} {ad : Cl → Addr} {ct : CT}
variable {fr : Fr} {F F' H H' : Hp} {σ : L2.St} {ρ : List Sl} {W : WX}
section
variable {X : Cx}
theorem pts_n : PTs X [] (TB K ct W (pur true)) := pts_nil.imp fun σ H Q h => by
  obtain ⟨fr, F, ρ, S, h⟩ := h
  exact Tat.ok (a := true) h true F H (Same.refl _) S rfl
theorem pts_1 {c : Expr} {t : M Bool} (h : PT X c (TB K ct W t)) : PTs X [c] (TB K ct W t) := pts_one h
theorem pp_lc {elt tg iter : Expr} {ifs : List Expr} {scope : Scope} {own : List (Str × Nat)} {pos : Pos} {it : M (List D)} {t : Tg} {c : M Bool} {e : Ev} (hc : X.calm = true) (hN : X.N.Nodup) (hi : PI X tg iter (TIt K ct W it)) (ok : BlkOk X.N X.env.scope scope own)
    (hg : ∀ (s : Shared) (H : Hp) (C : Addr) (cl : List (Str × Addr)) (fp : List Addr), PG (X.blk s H scope (compEnvC scope cl C X.env) fp) tg (TGt K ct t)) (ht : ∀ (s : Shared) (H : Hp) (C : Addr) (cl : List (Str × Addr)) (fp : List Addr), PTs (X.blk s H scope (compEnvC scope cl C X.env) fp) ifs (TB K ct WF c))
    (he : ∀ (s : Shared) (H : Hp) (C : Addr) (cl : List (Str × Addr)) (fp : List Addr), PE (X.blk s H scope (compEnvC scope cl C X.env) fp) elt (TP K ct WF e)) (hv : ∀ i ∈ t.sl, i ∈ own.map (·.2) := by decide) (hs : ∀ x, foldedSetIterable iter X.env x = pure x := by intro _; rfl) :
    PE X (.ListComp elt [⟨tg, iter, ifs, 0⟩] scope pos) (TP K ct W (evLc (own.map (·.2)) it t c e)) := (pe_lc hc hN hi ok hg ht he hs).imp fun σ H Q => w_lc hv
theorem s_setLc {i : Nat} {y : Str} {py : Pos} {elt tg iter : Expr} {ifs : List Expr} {scope : Scope} {own : List (Str × Nat)} {pos spos : Pos} {it : M (List D)} {t : Tg} {c : M Bool} {e : Ev} (hc : X.calm = true) (hN : X.N.Nodup) (hy : X.N[i]? = some y) (hyl : X.env.scope.names.lookup y = some .local)
    (hsw : swapsWith (.ListComp elt [⟨tg, iter, ifs, 0⟩] scope pos) (some (.Name y py)) spos.line X.env = pure true) (hi : PI X tg iter (TIt K ct W it)) (ok : BlkOk X.N X.env.scope scope own)
    (hg : ∀ (s : Shared) (H : Hp) (C : Addr) (cl : List (Str × Addr)) (fp : List Addr), PG (X.blk s H scope (compEnvC scope cl C X.env) fp) tg (TGt K ct t)) (ht : ∀ (s : Shared) (H : Hp) (C : Addr) (cl : List (Str × Addr)) (fp : List Addr), PTs (X.blk s H scope (compEnvC scope cl C X.env) fp) ifs (TB K ct WF c))
    (he : ∀ (s : Shared) (H : Hp) (C : Addr) (cl : List (Str × Addr)) (fp : List Addr), PE (X.blk s H scope (compEnvC scope cl C X.env) fp) elt (TP K ct WF e)) (hv : ∀ i ∈ t.sl, i ∈ own.map (·.2) := by decide) (hs : ∀ x, foldedSetIterable iter X.env x = pure x := by intro _; rfl) :
    PS X (.Assign [.Name y py] (.ListComp elt [⟨tg, iter, ifs, 0⟩] scope pos) spos) (TSt K ct W (evAsg i (evLc (own.map (·.2)) it t c e))) := (ps_setLc hc hN hy hyl hsw hi ok hg ht he hs).imp fun D σ H ⟨fr, F, ρ, S, h⟩ => by
  show tLc _ _ _ _ _ σ H _
  refine w_lc hv ?_
  exact h.dat S fun F1 H1 ρ1 v d s1 S1 r1 h => h.setD S1 r1
end
/-! ### new objects -/
theorem Rel.push (S : Rel K ct fr F H σ ρ) {p : Addr} {c : CC} (f : Fresh K ct.ad fr F H σ ρ p c) : Rel K ct fr F H (σ ++ [some (.ref p)]) (ρ ++ [.cel .own c]) := by
  obtain ⟨f1, f2, f3, f4, f5⟩ := f
  have l := S.len
  have old : ∀ {i : Nat} {s : Sl}, (ρ ++ [Sl.cel .own c])[i]? = some s → (i < ρ.length ∧ ρ[i]? = some s) ∨ (i = ρ.length ∧ s = .cel .own c) := fun {i s} e => by
    by_cases q : i < ρ.length
    · rw [List.getElem?_append_left q] at e; exact .inl ⟨q, e⟩
    · rw [List.getElem?_append_right (by omega)] at e
      have : i - ρ.length = 0 := by
        cases w : i - ρ.length with
        | zero => rfl
        | succ n => rw [w] at e; simp at e
      rw [this] at e
      cases e
      exact .inr ⟨by omega, rfl⟩
  have get : ∀ {i : Nat}, i < ρ.length → (σ ++ [some (V.ref p)])[i]? = σ[i]? := fun {i} q => List.getElem?_append_left (by omega)
  have last : (σ ++ [some (V.ref p)])[ρ.length]? = some (some (V.ref p)) := by rw [← l]; simp
  refine ⟨by simp [l], S.fh, fun i s e => ?_, fun i j k c1 k' c2 q e1 e2 h1 h2 => ?_, S.keep, S.fro, fun i q e => ?_⟩
  · rcases old e with ⟨q, e⟩ | ⟨rfl, rfl⟩
    · obtain ⟨o, g1, g2⟩ := S.slot i s e
      exact ⟨o, by rw [get q]; exact g1, g2⟩
    · exact ⟨_, last, p, rfl, f1, f2, (fun z => by cases z), (fun _ => f3), f4⟩
  · rcases old e1 with ⟨q1, e1⟩ | ⟨rfl, z1⟩
    · rw [get q1] at h1
      rcases old e2 with ⟨q2, e2⟩ | ⟨rfl, z2⟩
      · rw [get q2] at h2
        exact S.dis i j _ _ _ _ q e1 e2 h1 h2
      · rw [last] at h2
        cases h2
        exact absurd h1 (f5 _ _ _ e1)
    · rw [last] at h1
      cases h1
      rcases old e2 with ⟨q2, e2⟩ | ⟨rfl, z2⟩
      · rw [get q2] at h2
        exact absurd h2 (f5 _ _ _ e2)
      · rfl
  · obtain ⟨k, c1, h1, h2⟩ := S.pcs i q e
    exact ⟨k, c1, by rw [List.getElem?_append_left (List.getElem?_eq_some_iff.mp h1).1]; exact h1, h2⟩
theorem Rel.pop {o : Option V} (S : Rel K ct fr F H (σ ++ [o]) ρ) (np : fr.pa σ.length = none) : Rel K ct fr F H σ (ρ.take σ.length) := by
  have l := S.len
  rw [List.length_append] at l
  have l : σ.length + 1 = ρ.length := l
  have get : ∀ {i : Nat} {s : Sl}, (ρ.take σ.length)[i]? = some s → i < σ.length ∧ ρ[i]? = some s := fun {i s} e => by
    rw [List.getElem?_take] at e
    split at e
    · rename_i q; exact ⟨q, e⟩
    · cases e
  have gs : ∀ {i : Nat}, i < σ.length → (σ ++ [o])[i]? = σ[i]? := fun {i} q => List.getElem?_append_left q
  refine ⟨by rw [List.length_take]; omega, S.fh, fun i s e => ?_, fun i j k c1 k' c2 q e1 e2 h1 h2 => ?_, S.keep, S.fro, fun i q e => ?_⟩
  · obtain ⟨q, e⟩ := get e
    obtain ⟨u, g1, g2⟩ := S.slot i s e
    exact ⟨u, by rw [← gs q]; exact g1, g2⟩
  · obtain ⟨q1, e1⟩ := get e1
    obtain ⟨q2, e2⟩ := get e2
    exact S.dis i j _ _ _ _ q e1 e2 (by rw [gs q1]; exact h1) (by rw [gs q2]; exact h2)
  · obtain ⟨k, c1, h1, h2⟩ := S.pcs i q e
    have il := (List.getElem?_eq_some_iff.mp h1).1
    have : i ≠ σ.length := fun z => by rw [z, np] at e; cases e
    exact ⟨k, c1, by rw [List.getElem?_take, if_pos (by omega)]; exact h1, h2⟩
theorem Rel.popC {p : Addr} {c : CC} (S : Rel K ct fr F H (σ ++ [some (.ref p)]) ρ) (np : fr.pa σ.length = none) (e : ρ[σ.length]? = some (.cel .own c)) : Fresh K ct.ad fr F H σ (ρ.take σ.length) p c := by
  have last : (σ ++ [some (V.ref p)])[σ.length]? = some (some (V.ref p)) := by simp
  obtain ⟨u, g1, p', a1, a2, a3, a4, a5, a6⟩ := S.slot _ _ e
  rw [last] at g1
  subst a1
  cases g1
  refine ⟨a2, a3, a5 rfl, a6, fun i k c' e1 e2 => ?_⟩
  rw [List.getElem?_take] at e1
  split at e1
  · rename_i q
    have := S.dis i σ.length _ _ _ _ p e1 e (by rw [List.getElem?_append_left q]; exact e2) last
    omega
  · cases e1
/-- C(..): a new object, then its __init__ -/
def mkG (n : Nat) (G : Fn) (c : Cl) (ar : List Ar) : Ev := fun ρ => match callG n G (.c ρ.length :: ar) (ρ ++ [.cel .own (.obj c [])]) with
  | some (.ok (.d .non), ρ1) => (match ρ1[ρ.length]? with | some (.cel .own c') => some (.ok (.c c'), ρ1.take ρ.length) | _ => none)
  | some (.er c pl, ρ1) => some (.er c pl, ρ1.take ρ.length)
  | _ => none
def evMk (n : Nat) (G : Fn) (c : Cl) (as : List AE) (ds : List D := []) : Ev := bnd (evAs as) fun ar => mkG n G c (ar ++ ds.map .d)
def evMk0 (n : Nat) (G : Fn) (c : Cl) (as : List AE) (ds : List D := []) : Ev := bnd (evAs as) fun ar => noEr (mkG n G c (ar ++ ds.map .d))
theorem RAs.push {F : Hp} {σ : L2.St} {o : Option V} : ∀ {vs : List V} {as : List Ar}, RAs K ct.ad F σ vs as → RAs K ct.ad F (σ ++ [o]) vs as
  | _, _, .nil => .nil
  | _, .d _ :: _, .cons h r => .cons h (RAs.push r)
  | _, .c j :: _, .cons h r => .cons (by
      have h : σ[j]? = some (some _) := h
      show (σ ++ [o])[j]? = _
      rw [List.getElem?_append_left (List.getElem?_eq_some_iff.mp h).1]
      exact h) (RAs.push r)
theorem Tat.mk {n : Nat} {G : Fn} {c : Cl} {vs : List V} {ar : List Ar} {Q : VK} {E : XK} (h : Tat K ct (RV K ct.ad) W fr F ρ (mkG n G c ar) σ Q) (S : Rel K ct fr F H σ ρ) (r : RAs K ct.ad F σ vs ar) (hE : ∀ cls d H', W cls d σ H' → E cls d H')
    (x dx : Addr) (hx : H x = none) (hdx : H dx = none) (ne : dx ≠ x) : spP K ct.ad n G (.ref x :: vs) (upd (upd H dx (.own x)) x (.ins (ct.ad c) dx [])) (fun v H2 => v = .non ∧ Q (.ref x) H2) E := by
  have S1 := S.newC (o := .own x) hdx
  have hx1 : upd H dx (.own x) x = none := by rw [upd_ne ne.symm]; exact hx
  have S2 := S1.newC (o := .ins (ct.ad c) dx []) hx1
  have f2 := S1.fresh (o := .ins (ct.ad c) dx []) (c := .obj c []) hx1 ⟨dx, [], upd_same, .nil⟩
  have S3 := S2.push f2
  have l := S.len
  have np : fr.pa σ.length = none := by
    cases z : fr.pa σ.length with
    | none => rfl
    | some q =>
      obtain ⟨k1, c1, h1, h2⟩ := S.pcs _ q z
      have := (List.getElem?_eq_some_iff.mp h1).1
      omega
  have last : (σ ++ [some (V.ref x)])[ρ.length]? = some (some (V.ref x)) := by rw [← l]; simp
  refine Tat.call (W := fun cls d _ H' => W cls d σ H') (ar := .c ρ.length :: ar) (fr := fr) (F := F) (ρ := ρ ++ [.cel .own (.obj c [])]) (σ := σ ++ [some (.ref x)]) ?_ S3 (RAs.cons (show RA1 K ct.ad F (σ ++ [some (V.ref x)]) (.ref x) (.c ρ.length) from last) (RAs.push (o := some (V.ref x)) r)) hE
  obtain ⟨r0, ρ0, e, q⟩ := h
  unfold mkG at e
  cases ec : callG n G (.c ρ.length :: ar) (ρ ++ [.cel .own (.obj c [])]) with
  | none => rw [ec] at e; cases e
  | some y =>
    obtain ⟨ry, ρ1⟩ := y
    rw [ec] at e
    refine ⟨ry, ρ1, ec, ?_⟩
    cases ry with
    | er c' pl =>
      cases e
      intro d F' H' s' S' pr
      rw [← l] at q
      exact q d F' H' s' (S'.pop np) pr
    | ok rv =>
      cases rv with
      | c c' => cases e
      | d d =>
        cases d with
        | non =>
          intro v F' H' s' S' rr
          have rr : Rp K ct.ad F' v .non := rr
          cases rr
          refine ⟨rfl, ?_⟩
          have e : (match ρ1[ρ.length]? with | some (.cel .own c') => some (Ex.ok (Rv.c c'), ρ1.take ρ.length) | _ => none) = some (r0, ρ0) := e
          split at e
          · rename_i c' e1
            cases e
            rw [← l] at q e1
            exact q _ F' H' s' (S'.pop np) ⟨x, rfl, S'.popC np e1⟩
          · cases e
        | _ => cases e
section
variable {X : Cx} {CX : CXT} {k : Nat} {f : Addr} {fd : FuncData} {ps : List Str} {x : Str} {p pos : Pos} {e : Expr} {es : List Expr} {n : Nat} {G : Fn} {as : List AE} {dvs : List V} {dds : List D} {ds : List Value}
theorem pp_make (c : Cl) (M : Mk X.K (ct.ad c) f) (Fn : FnOk X.prog X.w X.K X.mg X.base CX k f fd ps (spP K ct.ad n G)) (hr : Room (k + 1) X.A) (hg : Gl X x) (hm : X.mg x = some (.ref (ct.ad c))) (hb : Binds X.K fd ps ds) (hd : Vals dvs ds) (hx : Passes CX X E0)
    (ha : PA X (e :: es) (TAr K ct W (evAs as))) (hdf : Dfs dvs dds) (hdb : (x == ("__debug__" : Str)) = false := by decide) (he : starEach (e :: es) X.env = (false, eval e X.env) :: starEach es X.env := by rfl) (hpl : (backTo pos (starEach es X.env)).any (·.1) = false := by rfl) :
    PE X (.Call (.Name x p) (e :: es) [] pos) (TP K ct W (evMk0 n G c as dds)) := (pe_make M Fn hr hg hm hb hd hx ha hdb he hpl).imp fun σ H Q h => by
  obtain ⟨fr, F, ρ, S, h⟩ := h
  refine Tat.bnd h S fun F1 H1 ρ1 vs ar s1 S1 r1 h => ?_
  intro x dx h1 h2 h3
  exact Tat.mk (W := WF) h.noEr S1 (RAs.dfs hdf r1) (fun _ _ _ z => z) x dx h1 h2 h3
theorem pp_makeS (c : Cl) (M : Mk X.K (ct.ad c) f) (Fn : FnOk X.prog X.w X.K X.mg X.base (L2.CX X.prog X.w) k f fd ps (spP K ct.ad n G)) (tk : Takes X W) (hr : Room (k + 1) X.A) (hg : Gl X x) (hm : X.mg x = some (.ref (ct.ad c))) (hb : Binds X.K fd ps ds) (hd : Vals dvs ds)
    (ha : PA X (e :: es) (TAr K ct W (evAs as))) (hdf : Dfs dvs dds) (hdb : (x == ("__debug__" : Str)) = false := by decide) (he : starEach (e :: es) X.env = (false, eval e X.env) :: starEach es X.env := by rfl) (hpl : (backTo pos (starEach es X.env)).any (·.1) = false := by rfl) :
    PE X (.Call (.Name x p) (e :: es) [] pos) (TP K ct W (evMk n G c as dds)) := (OW.pe_makeS M Fn hr hg hm hb hd (fun σ => passAt tk σ) ha hdb he hpl).imp fun σ H Q h => by
  obtain ⟨fr, F, ρ, S, h⟩ := h
  refine Tat.bnd h S fun F1 H1 ρ1 vs ar s1 S1 r1 h => ?_
  intro x dx h1 h2 h3
  exact Tat.mk h S1 (RAs.dfs hdf r1) (fun _ _ _ z => z) x dx h1 h2 h3
end
/-! ### lists that change -/
def modL (j : Nat) (f : List D → Option (D × List D)) : Ev := fun ρ => match ρ[j]? with
  | some (.cel k (.lst xs)) => (match f xs with | some (r, ys) => some (.ok (.d r), ρ.set j (.cel k (.lst ys))) | none => none)
  | _ => none
def isL (j : Nat) : Ev := fun ρ => match ρ[j]? with | some (.cel _ (.lst _)) => some (.ok (.d .non), ρ) | _ => none
/-- o.m(..) of a list in slot j -/
def evBmL (j : Nat) (f : List D → List D → Option (D × List D)) (es : List DE) : Ev := bnd (isL j) fun _ => bnd (evDs es) fun ds => modL j fun xs => f xs ds
theorem Tat.isL {δ γ : Type} {R' : Rel3 δ γ} {j : Nat} {k : Rv → M γ} {Q : δ → Hp → Prop} (h : Tat K ct R' W fr F ρ (PL.bnd (PL.isL j) k) σ Q) (S : Rel K ct fr F H σ ρ) :
    ∃ p vs, σ[j]? = some (some (.ref p)) ∧ H p = some (.lst vs) ∧ Tat K ct R' W fr F ρ (k (.d .non)) σ Q := by
  obtain ⟨r, ρ', e, q⟩ := h
  unfold PL.bnd PL.isL at e
  split at e
  · rename_i a ρ1 e1
    split at e1
    · rename_i k0 xs e2
      cases e1
      obtain ⟨o, g1, p, a1, a2, a3, a4, a5, vs, a6, a7⟩ := S.slot j _ e2
      subst a1
      exact ⟨p, vs, g1, a6, r, ρ', e, q⟩
    · cases e1
  · rename_i c pl ρ1 e1
    split at e1 <;> cases e1
  · cases e
variable (K ad) in
/-- what a list's method does -/
def OL (r : V → List V → Hp → VK → Prop) (f : List D → List D → Option (D × List D)) : Prop := ∀ {F H : Hp} {p : Addr} {vs us : List V} {xs ds ys : List D} {z : D} {Q : VK}, Same F H → H p = some (.lst vs) → Rps K ad F vs xs → Rps K ad F us ds → f xs ds = some (z, ys) →
  (∀ v vs', Rp K ad F v z → Rps K ad F vs' ys → Q v (upd H p (.lst vs'))) → r (.ref p) us H Q
theorem w_bmL {j : Nat} {r : V → List V → Hp → VK → Prop} {f : List D → List D → Option (D × List D)} {es : List DE} {Q : VK} (O : OL K ct.ad r f) (h : TP K ct W (evBmL j f es) σ H Q) : tBM K "list" r (tVar j) (TD K ct W (evDs es)) σ H Q := by
  obtain ⟨fr, F, ρ, S, h⟩ := h
  obtain ⟨p, vs, h1, h2, h⟩ := Tat.isL h S
  refine ⟨_, h1, .inl ⟨rfl, vs, SqL.of h2⟩, ?_⟩
  refine Tat.bnd h S fun F1 H1 ρ1 us ds s1 S1 r1 h => ?_
  obtain ⟨r0, ρ', e, q⟩ := h
  unfold modL at e
  split at e
  · rename_i k xs e2
    obtain ⟨o, g1, p', a1, a2, a3, a4, a5, vs', a6, a7⟩ := S1.slot j _ e2
    rw [h1] at g1
    subst a1
    cases g1
    split at e
    · rename_i z ys ef
      cases e
      exact O S1.fh a6 a7 r1 ef fun v vs2 rv rvs => q v F1 _ (Same.refl _) (S1.updC e2 h1 rfl ⟨vs2, upd_same, rvs⟩) rv
    · cases e
  · cases e
def fApp : List D → List D → Option (D × List D) | xs, [d] => if xs.length < 16777216 then some (.non, xs ++ [d]) else none | _, _ => none
def fIns : List D → List D → Option (D × List D) | xs, [.int i, d] => if xs.length < 16777216 ∧ 0 ≤ i ∧ i < 2 ^ 63 then some (.non, xs.take i.toNat ++ [d] ++ xs.drop i.toNat) else none | _, _ => none
def fExt : List D → List D → Option (D × List D) | xs, [.lst ys] => if xs.length + ys.length ≤ 16777216 then some (.non, xs ++ ys) else none | _, _ => none
def fPopAt : List D → List D → Option (D × List D) | xs, [.int i] => if -(2 ^ 63) ≤ i ∧ i < 2 ^ 63 then (seqIndex? i xs.length).bind fun k => (xs[k]?).map fun d => (d, xs.eraseIdx k) else none | _, _ => none
theorem ol_app : OL K ct.ad rAppend fApp := by
  intro F H p vs us xs ds ys z Q s h1 h2 h3 e q
  cases h3 with
  | nil => cases e
  | @cons u d us ds r rs =>
    cases rs with
    | cons _ _ => cases e
    | nil =>
      have e : (if xs.length < 16777216 then some (D.non, xs ++ [d]) else none) = some (z, ys) := e
      split at e
      · rename_i l
        cases e
        exact ⟨p, vs, u, rfl, rfl, h1, by rw [h2.len]; exact l, q _ _ .non (h2.snoc r)⟩
      · cases e
theorem ol_ins : OL K ct.ad OW.wIns fIns := by
  intro F H p vs us xs ds ys z Q s h1 h2 h3 e q
  cases h3 with
  | nil => cases e
  | @cons u d us ds r rs =>
    cases rs with
    | nil => cases d <;> cases e
    | @cons u2 d2 us2 ds2 r2 rs2 =>
      cases rs2 with
      | cons _ _ => cases d <;> cases e
      | nil =>
        cases d <;> try cases e
        rename_i i
        cases r
        have e : (if xs.length < 16777216 ∧ 0 ≤ i ∧ i < 2 ^ 63 then some (D.non, xs.take i.toNat ++ [d2] ++ xs.drop i.toNat) else none) = some (z, ys) := e
        split at e
        · rename_i l
          cases e
          exact ⟨p, vs, i, u2, rfl, rfl, h1, by rw [h2.len]; exact l.1, l.2.1, l.2.2, q _ _ .non (((h2.take _).snoc r2).app (h2.drop _))⟩
        · cases e
section
variable {X : Cx} {e : Expr} {es : List Expr} {r : List DE} {cpos apos p : Pos} {x : Str}
abbrev FewW (X : Cx) (q : Pos) (ws : List Expr) : Prop := ((backTo q (starEach ws X.env)).all (fun y => !y.1) && (backToKw q (keywordEach [] X.env)).all (fun y => y.1.isSome)
  && decide (ws.length + ([] : List Keyword).length + (if ([] : List Keyword).isEmpty then 0 else 1) < 30)) = true
theorem pp_bmL {id : String} {name : Str} {rr : V → List V → Hp → VK → Prop} {f : List D → List D → Option (D × List D)} (j : Nat) (eK : X.K = K) (O : OL K ct.ad rr f) (pa : PlainAttrs "list") (slot : Slot "list" name id) (hty : typeOf (.builtin id) = pure (.type "method_descriptor")) (hm : MtR X id rr) (ho : PE X (.Name x p) (tVar j)) (ha : PA X (e :: es) (TD K ct W (evDs r)))
    (hbase : attributeBase (.Name x p) name X.env (eval (.Name x p) X.env) = eval (.Name x p) X.env := by rfl)
    (hfew : FewW X cpos (e :: es) := by rfl) (hline : (apos.endLine == cpos.line) = true := by rfl)
    (hs : starEach (e :: es) X.env = (false, eval e X.env) :: starEach es X.env := by rfl) (hplain : (backTo cpos (starEach es X.env)).any (·.1) = false := by rfl) :
    PE X (.Call (.Attribute (.Name x p) name apos) (e :: es) [] cpos) (TP K ct W (evBmL j f r)) := by
  subst eK
  exact (pe_bm pa slot hty hm ho ha hbase hfew hline hs hplain).imp fun σ H Q => w_bmL O
end
/-- xs[i] = e, xs in slot j -/
def evSetI (j : Nat) (ie e : Ev) : M Fl := bnd (dat e) fun d => bnd (isL j) fun _ => bnd (dat ie) fun i => match i with
  | .int i => bnd (modL j fun xs => (ixN xs.length i).map fun n => (.non, xs.set n d)) fun _ => pur .nx
  | _ => fai
theorem Sat.isL {D : Ends} {j : Nat} {k : Rv → M Fl} (h : Sat K ct W D fr F ρ (PL.bnd (PL.isL j) k)) (S : Rel K ct fr F H σ ρ) :
    ∃ p vs, σ[j]? = some (some (.ref p)) ∧ H p = some (.lst vs) ∧ Sat K ct W D fr F ρ (k (.d .non)) := by
  obtain ⟨r, ρ', e, q⟩ := h
  unfold PL.bnd PL.isL at e
  split at e
  · rename_i a ρ1 e1
    split at e1
    · rename_i k0 xs e2
      cases e1
      obtain ⟨o, g1, p, a1, a2, a3, a4, a5, vs, a6, a7⟩ := S.slot j _ e2
      subst a1
      exact ⟨p, vs, g1, a6, r, ρ', e, q⟩
    · cases e1
  · rename_i c pl ρ1 e1
    split at e1 <;> cases e1
  · cases e
theorem w_setI {j : Nat} {ie e : Ev} {D : Ends} (h : TSt K ct W (evSetI j ie e) D σ H) : tAsg (TP K ct W e) (gSub (tVar j) (TP K ct W ie) rSetL) D σ H := by
  obtain ⟨fr, F, ρ, S, h⟩ := h
  refine h.dat S fun F1 H1 ρ1 v d s1 S1 r1 h => ?_
  obtain ⟨p, vs, h1, h2, h⟩ := Sat.isL h S1
  refine ⟨_, h1, ?_⟩
  refine h.dat S1 fun F2 H2 ρ2 u i s2 S2 r2 h => ?_
  cases i with
  | int i =>
    cases r2
    obtain ⟨r0, ρ', e, q⟩ := h
    have e : bnd (modL j fun xs => (ixN xs.length i).map fun n => (.non, xs.set n d)) (fun _ => pur Fl.nx) ρ2 = some (r0, ρ') := e
    unfold bnd modL at e
    cases e2 : ρ2[j]? with
    | none => rw [e2] at e; cases e
    | some x =>
      rw [e2] at e
      cases x with
      | cel k c =>
        cases c with
        | lst xs =>
          obtain ⟨o, g1, p', a1, a2, a3, a4, a5, vs', a6, a7⟩ := S2.slot j _ e2
          rw [h1] at g1
          subst a1
          cases g1
          dsimp only at e
          cases e3 : ixN xs.length i with
          | none => rw [e3] at e; cases e
          | some n =>
            rw [e3] at e
            cases e
            exact ⟨p, vs', i, n, rfl, rfl, a6, by rw [a7.len]; exact e3, q σ F2 _ (Same.refl _) (S2.updC e2 h1 rfl ⟨_, upd_same, a7.set (r1.mono s2) n⟩)⟩
        | _ => cases e
      | _ => cases e
  | _ => obtain ⟨_, _, e, _⟩ := h; cases e
theorem s_setI {X : Cx} {x : Str} {p pos pos' : Pos} {i e : Expr} {fi fe : Ev} (j : Nat) (ho : PE X (.Name x p) (tVar j)) (hi : PE X i (TP K ct W fi)) (he : PE X e (TP K ct W fe))
    (ha : ∀ z, assign (.Subscript (.Name x p) i pos) X.env z = (do
      let l ← holding [z] (eval (.Name x p) X.env); let n ← holding [z, l] (eval i X.env)
      standAt pos; holding [z, l, n] (setItem l n z); release [z, l, n] []) := by intro _; rfl)
    (hs : swapsWithSole [.Subscript (.Name x p) i pos] e pos'.line X.env = pure false := by rfl) (hw : swappedStores [.Subscript (.Name x p) i pos] e X.env = pure none := by rfl)
    (h1 : (assignEach [.Subscript (.Name x p) i pos] X.env).map (·.2) = [assign (.Subscript (.Name x p) i pos) X.env] := by rfl) : PS X (.Assign [.Subscript (.Name x p) i pos] e pos') (TSt K ct W (evSetI j fi fe)) := (ps_asg he (pg_sub ho hi set_list ha) hs hw h1).imp fun D σ H => w_setI
/-! ### fields of an object in the making -/
def putD (f : Str) (d : D) : List (Str × D) → List (Str × D)
  | [] => [(f, d)]
  | (g, x) :: r => if g = f then (g, d) :: r else (g, x) :: putD f d r
theorem put_zip {f : Str} {v : V} {d : D} (r : Rp K ct.ad F v d) : ∀ {kvs : List (Str × D)} {vs : List V}, Rps K ct.ad F vs (kvs.map (·.2)) → ∃ vs', putF f v ((kvs.map (·.1)).zip vs) = ((putD f d kvs).map (·.1)).zip vs' ∧ Rps K ct.ad F vs' ((putD f d kvs).map (·.2))
  | [], _, h => by cases h; exact ⟨[v], rfl, .cons r .nil⟩
  | (g, x) :: kvs, _, h => by
    cases h with
    | @cons u _ us _ hu hs =>
      obtain ⟨vs', e, rs⟩ := put_zip r hs
      by_cases q : g = f
      · refine ⟨v :: us, ?_, ?_⟩
        · simp [putD, putF, q]
        · simp only [putD, if_pos q, List.map_cons]; exact .cons r hs
      · refine ⟨u :: vs', ?_, ?_⟩
        · simp only [putD, putF, if_neg q, List.map_cons, List.zip_cons_cons]; rw [e]
        · simp only [putD, if_neg q, List.map_cons]; exact .cons hu rs
def evFldS (c : Cl) (j : Nat) (f : Str) (e : Ev) : M Fl := bnd (dat e) fun d => fun ρ => match ρ[j]? with
  | some (.cel k (.obj c' kvs)) => if c' = c ∧ kvs.length < 1000 then some (.ok .nx, ρ.set j (.cel k (.obj c' (putD f d kvs)))) else none
  | _ => none
theorem s_fld {X : Cx} {x f : Str} {p pos pos' : Pos} {e : Expr} {fe : Ev} (c : Cl) (j : Nat) (eK : X.K = K) (hc : Cls K (ct.ad c)) (hn : NoAttr K (ct.ad c) f) (ho : PE X (.Name x p) (tVar j)) (he : PE X e (TP K ct W fe))
    (hs : swapsWith e (some (.Attribute (.Name x p) f pos')) pos.line X.env = pure false := by rfl) : PS X (.Assign [.Attribute (.Name x p) f pos'] e pos) (TSt K ct W (evFldS c j f fe)) := by
  subst eK
  refine (ps_fld ho he hs).imp fun D σ H ⟨fr, F, ρ, S, h⟩ => ?_
  refine h.dat S fun F1 H1 ρ1 v d s1 S1 r1 h => ?_
  obtain ⟨r0, ρ', e, q⟩ := h
  have e9 : (match ρ1[j]? with | some (.cel k (.obj c' kvs)) => if c' = c ∧ kvs.length < 1000 then some (Ex.ok Fl.nx, ρ1.set j (.cel k (.obj c' (putD f d kvs)))) else none | _ => none) = some (r0, ρ') := e
  clear e
  split at e9
  · rename_i k c' kvs e2
    split at e9
    · rename_i w
      obtain ⟨rfl, w⟩ := w
      cases e9
      obtain ⟨o, g1, p', a1, a2, a3, a4, a5, dx, vs, a6, a7⟩ := S1.slot j _ e2
      subst a1
      obtain ⟨vs', e4, rs⟩ := put_zip (f := f) r1 a7
      refine ⟨_, g1, p', ct.ad c', dx, _, rfl, a6, hc, hn, ?_, ?_⟩
      · rw [List.length_zip, List.length_map]
        omega
      · rw [e4]
        exact q σ F1 _ (Same.refl _) (S1.updC e2 g1 rfl ⟨dx, vs', upd_same, rs⟩)
    · cases e9
  · cases e9
end PL
end
section
namespace PL
open PySem PySem.Spec PyProof.Rows L2
variable {K : PySem.W.Frag} {ad : Cl → Addr} {ct : CT}
variable {fr : Fr} {F F' H H' : Hp} {σ : L2.St} {ρ : List Sl} {W : WX}
/-! ### built-ins -/
def evB (g : List D → Option D) (es : List DE) : Ev := bnd (evDs es) fun ds => opt ((g ds).map Rv.d)
def evBc (g : List D → Option CC) (es : List DE) : Ev := bnd (evDs es) fun ds => opt ((g ds).map Rv.c)
variable (K ad) in
def OB (r : List V → Hp → VK → Prop) (g : List D → Option D) : Prop := ∀ {F H : Hp} {vs : List V} {ds : List D} {z : D} {Q : VK}, Same F H → Rps K ad F vs ds → g ds = some z → (∀ v, Rp K ad F v z → Q v H) → (∀ p us zs, z = .tup zs → Rps K ad F us zs → H p = none → Q (.ref p) (upd H p (.tup us))) → r vs H Q
variable (K ad) in
def OBc (r : List V → Hp → VK → Prop) (g : List D → Option CC) : Prop := ∀ {F H : Hp} {vs : List V} {ds : List D} {z : CC} {Q : VK}, Same F H → Rps K ad F vs ds → g ds = some z → (∀ p o, H p = none → (F p = none → CelR K ad F (upd H p o) p z) → Q (.ref p) (upd H p o)) → r vs H Q
theorem w_B {r : List V → Hp → VK → Prop} {g : List D → Option D} {es : List DE} {Q : VK} (O : OB K ct.ad r g) (h : TP K ct W (evB g es) σ H Q) : tCB r (TD K ct W (evDs es)) σ H Q := by
  obtain ⟨fr, F, ρ, S, h⟩ := h
  refine Tat.bnd h S fun F1 H1 ρ1 vs ds s1 S1 r1 h => ?_
  obtain ⟨z, e1, q⟩ := h.opt
  obtain ⟨y, e2, rfl⟩ := map_some e1
  refine O S1.fh r1 e2 (fun v rv => q v F1 H1 (Same.refl _) S1 rv) fun p us zs ez rs hp => ?_
  subst ez
  exact q _ (upd F1 p (.tup us)) _ (same_up (S1.nn hp)) (S1.newD hp) (Rp.tup (SqT.of upd_same) (rs.mono (same_up (S1.nn hp))))
theorem w_Bc {r : List V → Hp → VK → Prop} {g : List D → Option CC} {es : List DE} {Q : VK} (O : OBc K ct.ad r g) (h : TP K ct W (evBc g es) σ H Q) : tCB r (TD K ct W (evDs es)) σ H Q := by
  obtain ⟨fr, F, ρ, S, h⟩ := h
  refine Tat.bnd h S fun F1 H1 ρ1 vs ds s1 S1 r1 h => ?_
  obtain ⟨z, e1, q⟩ := h.opt
  obtain ⟨y, e2, rfl⟩ := map_some e1
  exact O S1.fh r1 e2 fun p o hp rc => q _ F1 _ (Same.refl _) (S1.newC hp) ⟨p, rfl, S1.fresh hp (rc (S1.nn hp))⟩
section
variable {X : Cx} {x : Str} {p pos : Pos} {e : Expr} {es : List Expr} {r : List V → Hp → VK → Prop} {as : List DE} {id T : String}
theorem pp_B {g : List D → Option D} (O : OB K ct.ad r g) (hc : CallR X (.builtin id) r) (hg : Gl X x) (hm : X.mg x = none) (hv : bootBuiltins x = some (.builtin id)) (ha : PA X (e :: es) (TD K ct W (evDs as))) (hn : x ≠ "__name__" := by decide) (hdb : (x == ("__debug__" : Str)) = false := by decide)
    (he : starEach (e :: es) X.env = (false, eval e X.env) :: starEach es X.env := by rfl) (hpl : (backTo pos (starEach es X.env)).any (·.1) = false := by rfl) : PE X (.Call (.Name x p) (e :: es) [] pos) (TP K ct W (evB g as)) := (pe_callB hc hg hm hv ha hn hdb he hpl).imp fun _ _ _ => w_B O
theorem pp_T {g : List D → Option D} (O : OB K ct.ad r g) (hc : CallR X (.type T) r) (hg : Gl X x) (hm : X.mg x = none) (hv : bootBuiltins x = some (.type T)) (ha : PA X (e :: es) (TD K ct W (evDs as))) (hn : x ≠ "__name__" := by decide) (hdb : (x == ("__debug__" : Str)) = false := by decide)
    (he : starEach (e :: es) X.env = (false, eval e X.env) :: starEach es X.env := by rfl) (hpl : (backTo pos (starEach es X.env)).any (·.1) = false := by rfl) : PE X (.Call (.Name x p) (e :: es) [] pos) (TP K ct W (evB g as)) := (pe_callTy hc hg hm hv ha hn hdb he hpl).imp fun _ _ _ => w_B O
theorem pp_Tc {g : List D → Option CC} (O : OBc K ct.ad r g) (hc : CallR X (.type T) r) (hg : Gl X x) (hm : X.mg x = none) (hv : bootBuiltins x = some (.type T)) (ha : PA X (e :: es) (TD K ct W (evDs as))) (hn : x ≠ "__name__" := by decide) (hdb : (x == ("__debug__" : Str)) = false := by decide)
    (he : starEach (e :: es) X.env = (false, eval e X.env) :: starEach es X.env := by rfl) (hpl : (backTo pos (starEach es X.env)).any (·.1) = false := by rfl) : PE X (.Call (.Name x p) (e :: es) [] pos) (TP K ct W (evBc g as)) := (pe_callTy hc hg hm hv ha hn hdb he hpl).imp fun _ _ _ => w_Bc O
end
theorem or_call {X : Cx} {f : Value} {r r' : List V → Hp → VK → Prop} (h : CallR X f r) (h' : CallR X f r') : CallR X f (fun xs H Q => r xs H Q ∨ r' xs H Q) := fun pins s σ H xs us Q I rv q => q.elim (h pins s σ H xs us Q I rv) (h' pins s σ H xs us Q I rv)
/-! len -/
def gLen : List D → Option D
  | [.lst xs] => some (.int xs.length) | [.sq xs] => some (.int xs.length) | [.tup xs] => some (.int xs.length)
  | [.str z] => if z.length ≤ 16777216 then some (.int z.length) else none
  | _ => none
def rLenA (K : PySem.W.Frag) : List V → Hp → VK → Prop := fun xs H Q => OW.wLen K xs H Q ∨ OW.wLenS xs H Q
theorem c_lenA {X : Cx} (eK : X.K = K) : CallR X (.builtin "len") (rLenA K) := by subst eK; exact or_call OW.c_len OW.c_lenS
theorem ob_len : OB K ad (rLenA K) gLen := by
  intro F H vs ds z Q s r e q _
  cases r with
  | nil => cases e
  | @cons v d vs ds r rs =>
    cases rs with
    | cons _ _ => cases d <;> cases e
    | nil =>
      cases d <;> try cases e
      · rename_i t
        cases r
        have e : (if t.length ≤ 16777216 then some (D.int t.length) else none) = some z := e
        split at e
        · rename_i h; cases e; exact .inr ⟨t, rfl, h, q _ (.int _)⟩
        · cases e
      · cases r with | tup h k => exact .inl ⟨_, _, rfl, .inr (sameT s h), by rw [k.len]; exact q _ (.int _)⟩
      · cases r with | lst h k => exact .inl ⟨_, _, rfl, .inl (SqL.of (s _ _ h)), by rw [k.len]; exact q _ (.int _)⟩
      · cases r with | sq h k => exact .inl ⟨_, _, rfl, .inl (s.seq h), by rw [k.len]; exact q _ (.int _)⟩
/-! int, str, abs, min, max -/
def gInt : List D → Option D | [.int i] => some (.int i) | [.bl b] => some (.int (if b then 1 else 0)) | _ => none
theorem ob_int : OB K ad OW.wInt1 gInt := by
  intro F H vs ds z Q s r e q _
  cases r with
  | nil => cases e
  | @cons v d vs ds r rs =>
    cases rs with
    | cons _ _ => cases d <;> cases e
    | nil =>
      cases d <;> cases e
      · cases r; exact .inr ⟨_, rfl, q _ (.int _)⟩
      · cases r; exact .inl ⟨_, rfl, q _ (.int _)⟩
def gStr : List D → Option D | [.int i] => if i.natAbs.log2 < 1920 then some (.str (toString i)) else none | _ => none
def gAbs : List D → Option D | [.int i] => some (.int (if i < 0 then -i else i)) | _ => none
def gMax2 : List D → Option D | [.int i, .int j] => some (.int (max i j)) | _ => none
def gMin2 : List D → Option D | [.int i, .int j] => some (.int (min i j)) | _ => none
def gMax3 : List D → Option D | [.int i, .int j, .int k] => some (.int (max i (max j k))) | _ => none
def gMin3 : List D → Option D | [.int i, .int j, .int k] => some (.int (min i (min j k))) | _ => none
theorem two {F : Hp} {vs : List V} {i j : Int} (r : Rps K ad F vs [.int i, .int j]) : vs = [.int i, .int j] := r.ints (ns := [i, j])
theorem three {F : Hp} {vs : List V} {i j k : Int} (r : Rps K ad F vs [.int i, .int j, .int k]) : vs = [.int i, .int j, .int k] := r.ints (ns := [i, j, k])
theorem ob_max2 : OB K ad OW.wMax2 gMax2 := by
  intro F H vs ds z Q s r e q _
  unfold gMax2 at e
  split at e
  · rename_i i j
    cases e
    have := two r
    subst this
    refine ⟨i, j, rfl, ?_⟩
    rw [show (if j > i then j else i) = max i j by split <;> omega]
    exact q _ (.int _)
  · cases e
theorem ob_min2 : OB K ad OW.wMin2 gMin2 := by
  intro F H vs ds z Q s r e q _
  unfold gMin2 at e
  split at e
  · rename_i i j
    cases e
    have := two r
    subst this
    refine ⟨i, j, rfl, ?_⟩
    rw [show (if j < i then j else i) = min i j by split <;> omega]
    exact q _ (.int _)
  · cases e
theorem ob_min3 : OB K ad OW.wMin3 gMin3 := by
  intro F H vs ds z Q s r e q _
  unfold gMin3 at e
  split at e
  · rename_i i j k
    cases e
    have := three r
    subst this
    exact ⟨i, j, k, rfl, q _ (.int _)⟩
  · cases e
/-- a list of ints as it lies -/
theorem Rp.lints {F H : Hp} {v : V} {d : D} {xs : List D} {ns : List Int} (s : Same F H) (r : Rp K ad F v d) (h : d.litems = some xs) (hn : D.ints xs = some ns) : ∃ p, v = .ref p ∧ SqL K H p (ns.map V.int) := by
  cases d <;> cases h
  · cases r with | lst h k => rw [D.ints_eq hn] at k; rw [k.ints] at h; exact ⟨_, rfl, SqL.of (s _ _ h)⟩
  · cases r with | sq h k => rw [D.ints_eq hn] at k; rw [k.ints] at h; exact ⟨_, rfl, s.seq h⟩
theorem Rp.lbls {F H : Hp} {v : V} {d : D} {xs : List D} {ns : List Bool} (s : Same F H) (r : Rp K ad F v d) (h : d.litems = some xs) (hn : D.bools xs = some ns) : ∃ p, v = .ref p ∧ SqL K H p (ns.map V.bl) := by
  cases d <;> cases h
  · cases r with | lst h k => rw [D.bools_eq hn] at k; rw [k.bls] at h; exact ⟨_, rfl, SqL.of (s _ _ h)⟩
  · cases r with | sq h k => rw [D.bools_eq hn] at k; rw [k.bls] at h; exact ⟨_, rfl, s.seq h⟩
def lints (d : D) : Option (List Int) := d.litems.bind D.ints
def lbools (d : D) : Option (List Bool) := d.litems.bind D.bools
theorem lints_i {d : D} {ns : List Int} (h : lints d = some ns) : ∃ xs, d.litems = some xs ∧ D.ints xs = some ns := by
  unfold lints at h
  cases e : d.litems with
  | none =>
    rw [e] at h
    cases h
  | some xs => rw [e] at h; exact ⟨xs, rfl, h⟩
theorem lbools_i {d : D} {ns : List Bool} (h : lbools d = some ns) : ∃ xs, d.litems = some xs ∧ D.bools xs = some ns := by
  unfold lbools at h
  cases e : d.litems with
  | none =>
    rw [e] at h
    cases h
  | some xs => rw [e] at h; exact ⟨xs, rfl, h⟩
def maxI : List Int → Int | [] => 0 | n :: ns => ns.foldl max n
def minI : List Int → Int | [] => 0 | n :: ns => ns.foldl min n
theorem foldl_max' : ∀ (ns : List Int) (m : Int), m ≤ ns.foldl max m ∧ (∀ n ∈ ns, n ≤ ns.foldl max m) ∧ (ns.foldl max m = m ∨ ns.foldl max m ∈ ns)
  | [], m => ⟨Int.le_refl _, fun _ h => by simp at h, .inl rfl⟩
  | n :: ns, m => by
    obtain ⟨h1, h2, h3⟩ := foldl_max' ns (max m n)
    rw [List.foldl_cons]
    refine ⟨by omega, fun x hx => ?_, ?_⟩
    · rcases List.mem_cons.mp hx with rfl | hx
      · omega
      · exact h2 x hx
    · rcases h3 with e | e
      · rcases Int.le_total m n with c | c
        · exact .inr (by rw [e]; exact List.mem_cons.mpr (.inl (by omega)))
        · exact .inl (by omega)
      · exact .inr (List.mem_cons_of_mem _ e)
def gMaxL : List D → Option D | [d] => (lints d).bind fun ns => if ns ≠ [] then some (.int (maxI ns)) else none | _ => none
def gMinL : List D → Option D | [d] => (lints d).bind fun ns => if ns ≠ [] then some (.int (minI ns)) else none | _ => none
def gSum : List D → Option D | [d] => (lints d).map fun ns => .int ns.sum | _ => none
def gAny : List D → Option D | [d] => (lbools d).map fun bs => .bl (bs.any id) | _ => none
def gAll : List D → Option D | [d] => (lbools d).map fun bs => .bl (bs.all id) | _ => none
theorem one_i {F : Hp} {vs : List V} {d : D} (r : Rps K ad F vs [d]) : ∃ v, vs = [v] ∧ Rp K ad F v d := by
  cases r with
  | cons r rs => cases rs; exact ⟨_, rfl, r⟩
theorem ob_all : OB K ad (rAll K) gAll := by
  intro F H vs ds z Q s r e q _
  unfold gAll at e
  split at e
  · rename_i d
    obtain ⟨ns, e1, rfl⟩ := map_some e
    obtain ⟨v, rfl, rv⟩ := one_i r
    obtain ⟨xs, g1, g2⟩ := lbools_i e1
    obtain ⟨p, rfl, hp⟩ := rv.lbls s g1 g2
    exact ⟨p, ns, rfl, hp, q _ (.bl _)⟩
  · cases e
/-! tuple, list -/
def gTup : List D → Option D | [.lst xs] => some (.tup xs) | [.sq xs] => some (.tup xs) | [.tup xs] => some (.tup xs) | _ => none
def rTupA (K : PySem.W.Frag) : List V → Hp → VK → Prop := fun xs H Q => ∃ p ys, xs = [.ref p] ∧ ((SqL K H p ys ∧ ∀ l, H l = none → Q (.ref l) (upd H l (.tup ys))) ∨ (SqT K H p ys ∧ Q (.ref p) H))
theorem c_tupA {X : Cx} (eK : X.K = K) : CallR X (.type "tuple") (rTupA K) := by subst eK; exact call_tuple_of
theorem ob_tup : OB K ad (rTupA K) gTup := by
  intro F H vs ds z Q s r e q q2
  unfold gTup at e
  split at e
  · cases e
    obtain ⟨v, rfl, rv⟩ := one_i r
    cases rv with | lst h k => exact ⟨_, _, rfl, .inl ⟨SqL.of (s _ _ h), fun l hl => q2 l _ _ rfl k hl⟩⟩
  · cases e
    obtain ⟨v, rfl, rv⟩ := one_i r
    cases rv with | sq h k => exact ⟨_, _, rfl, .inl ⟨s.seq h, fun l hl => q2 l _ _ rfl k hl⟩⟩
  · cases e
    obtain ⟨v, rfl, rv⟩ := one_i r
    cases rv with | tup h k => exact ⟨_, _, rfl, .inr ⟨sameT s h, q _ (.tup h k)⟩⟩
  · cases e
def gLst : List D → Option CC | [d] => d.items.map CC.lst | _ => none
def rLstA (K : PySem.W.Frag) : List V → Hp → VK → Prop := fun xs H Q => ∃ p ys, xs = [.ref p] ∧ (SqL K H p ys ∨ SqT K H p ys) ∧ ∀ l, H l = none → Q (.ref l) (upd H l (.lst ys))
theorem c_lstA {X : Cx} (eK : X.K = K) : CallR X (.type "list") (rLstA K) := by subst eK; exact call_list_of
theorem ob_lst : OBc K ad (rLstA K) gLst := by
  intro F H vs ds z Q s r e q
  unfold gLst at e
  split at e
  · obtain ⟨xs, e1, rfl⟩ := map_some e
    obtain ⟨v, rfl, rv⟩ := one_i r
    obtain ⟨p, us, rfl, h1, h2⟩ := rv.seq s e1
    exact ⟨p, us, rfl, h1, fun l hl => q l _ hl fun _ => ⟨_, upd_same, h2⟩⟩
  · cases e
/-! ### isinstance -/
inductive TyN | b (n : String) | o (c : Cl)
  deriving DecidableEq
def TyN.v (ad : Cl → Addr) : TyN → Value | .b n => .type n | .o c => .ref (ad c)
def D.tyN : D → Option TyN
  | .non => some (.b "NoneType") | .bl _ => some (.b "bool") | .int _ => some (.b "int") | .str _ => some (.b "str") | .tup _ => some (.b "tuple") | .lst _ => some (.b "list") | .sq _ => some (.b "list")
  | .obj c _ => some (.o c) | .dK _ _ => some (.b "dict") | .dT _ _ => some (.b "dict") | _ => none
structure ClsT (K : PySem.W.Frag) (C : Addr) : Prop where
  cl : Cls K C
  c1 : PySem.W.findIn K (.ref C) "__class__" = some (some (.builtin "object.__class__"))
  c2 : PySem.W.specialIn K (.builtin "object.__class__") "__get__" = some (some (.builtin "getset_descriptor.__get__"))
  c3 : PySem.W.takesIn K (.builtin "object.__class__") = some true
  c4 : PySem.W.mroIn K C (.type "object") = some true
variable (K ad) in
inductive IsiOk (u : Value) : List (TyN × Bool) → Prop
  | nil : IsiOk u []
  | b {n : String} {x : Bool} {r : List (TyN × Bool)} (h : PySem.W.kitOne K (.type n) u = some x) (t : IsiOk u r) : IsiOk u ((.b n, x) :: r)
  | o {c : Cl} {x : Bool} {r : List (TyN × Bool)} (h : PySem.W.kitOne K (.ref (ad c)) u = some x) (k : ClsT K (ad c)) (t : IsiOk u r) : IsiOk u ((.o c, x) :: r)
theorem IsiOk.get {u : Value} : ∀ {tbl : List (TyN × Bool)} {t : TyN} {x : Bool}, IsiOk K ad u tbl → tbl.lookup t = some x → PySem.W.kitOne K (t.v ad) u = some x ∧ ∀ c, t = .o c → ClsT K (ad c)
  | _, _, _, .nil, h =>
    by cases h
  | _, t, x, .b (n := n) (x := y) (r := r) h k, e => by
    rw [List.lookup_cons] at e
    cases q : t == TyN.b n with
    | true => rw [q] at e; have e : some y = some x := e; cases e; have := beq_iff_eq.mp q; subst this; exact ⟨h, fun c z => nomatch z⟩
    | false => rw [q] at e; exact k.get e
  | _, t, x, .o (c := c0) (x := y) (r := r) h k0 k, e => by
    rw [List.lookup_cons] at e
    cases q : t == TyN.o c0 with
    | true => rw [q] at e; have e : some y = some x := e; cases e; have := beq_iff_eq.mp q; subst this; exact ⟨h, fun c z => by cases z; exact k0⟩
    | false => rw [q] at e; exact k.get e
theorem Rp.ty {F H : Hp} {v : V} {d : D} {t : TyN} (s : Same F H) (r : Rp K ad F v d) (h : d.tyN = some t) (k : ∀ c, t = .o c → ClsT K (ad c)) : TyX K H v (t.v ad) := by
  cases r with
  | non => cases h; exact .base .non
  | bl b => cases h; exact .base (.bl b)
  | int i => cases h; exact .base (.int i)
  | str x => cases h; exact .base (.str x)
  | @tup p vs ds h1 k1 =>
    cases h
    rcases sameT s h1 with (h2 | ⟨o, h2⟩) | ⟨o, its, n, h2, h3, _⟩
    · exact .base (.tup h2)
    · exact .fTuple h2
    · exact .kTuple h2 h3
  | lst h1 k1 => cases h; exact .base (.lst (s _ _ h1))
  | @sq p vs ds h1 k1 =>
    cases h
    rcases s.seq h1 with (h2 | ⟨o, h2⟩) | ⟨o, its, n, h2, h3, _⟩
    · exact .base (.lst h2)
    · exact .base (.frz h2)
    · exact .kList h2 h3
  | @obj p dx c vs ds h1 _ _ => cases h; have T := k c rfl; exact .base (.ins (s _ _ h1) T.cl T.c1 T.c2 T.c3 T.c4)
  | cl c => cases h
  | dK h1 _ _ => cases h; exact .base (.dK (s _ _ h1))
  | dT h1 _ _ => cases h; exact .base (.dT (s _ _ h1))
def evIsi (tbl : List (TyN × Bool)) (e : Ev) : Ev := bnd (dat e) fun d => opt ((d.tyN.bind fun t => tbl.lookup t).map fun b => Rv.d (.bl b))
theorem pp_isi {X : Cx} {p pos : Pos} {e c : Expr} {fe : Ev} {cv : V} {u : Value} {tbl : List (TyN × Bool)} (eK : X.K = K) (T : IsiOk K ct.ad u tbl) (hcv : ClsV cv u) (hg : Gl X "isinstance") (hm : X.mg "isinstance" = none) (he : PE X e (TP K ct W fe)) (hc : PE X c (tC cv))
    (h1 : starEach (e :: [c]) X.env = (false, eval e X.env) :: starEach [c] X.env := by rfl) (h2 : starEach [c] X.env = (false, eval c X.env) :: starEach [] X.env := by rfl) (hpl : (backTo pos (starEach [c] X.env)).any (·.1) = false := by rfl) :
    PE X (.Call (.Name "isinstance" p) [e, c] [] pos) (TP K ct W (evIsi tbl fe)) := by
  subst eK
  refine (pe_callB (x := "isinstance") call_isi hg hm (by decide +kernel) (pa_cons he (pa_cons hc pa_nil h2) h1) (by decide) (by decide) h1 hpl).imp fun σ H Q h => ?_
  obtain ⟨fr, F, ρ, S, h⟩ := h
  refine Tat.dat h S fun F1 H1 ρ1 v d s1 S1 r1 h => ?_
  obtain ⟨z, e1, q⟩ := h.opt
  obtain ⟨b, e2, rfl⟩ := map_some e1
  cases e3 : d.tyN with
  | none => rw [e3] at e2; cases e2
  | some t =>
    rw [e3] at e2
    have e2 : tbl.lookup t = some b := e2
    obtain ⟨g1, g2⟩ := T.get e2
    exact ⟨v, cv, _, u, b, rfl, hcv, r1.ty S1.fh e3 g2, g1, q _ F1 H1 (Same.refl _) S1 (Rp.bl b)⟩
end PL
end
section
namespace PL
open PySem PySem.Spec PyProof.Rows L2
variable {K : PySem.W.Frag} {ad : Cl → Addr} {ct : CT}
variable {fr : Fr} {F F' H H' : Hp} {σ : L2.St} {ρ : List Sl} {W : WX}
/-! ### raise, try -/
def evRaise (c : Cl) : M Fl := fun ρ => some (.er c none, ρ)
def evRaise1 (c : Cl) (e : Ev) : M Fl := bnd e fun _ => evRaise c
theorem Sat.raise {D : Ends} {c : Cl} (h : Sat K ct W D fr F ρ (evRaise c)) (S : Rel K ct fr F H σ ρ) : W (.ref (ct.ad c)) none σ H := by
  obtain ⟨r, ρ', e, q⟩ := h
  cases e
  exact q σ none F H (Same.refl _) S rfl
theorem s_raise {X : Cx} {x m : Str} {j : Nat} {p p2 pos pos' : Pos} {bmB : List Value} {B newId initId : String} (c : Cl) (hc : X.calm = true) (tk : Takes X W) (Fx : ExcBaseFacts B newId initId bmB) (q : PySem.W.excIn X.K (ct.ad c) bmB newId = true) (gC : X.mg x = some (.ref (ct.ad c))) (kC : PySem.W.keepIn X.K (.ref (ct.ad c)) = true) (r : Raises X (.ref (ct.ad c))) (hg : Gl X x)
    (hdb : (x == ("__debug__" : Str)) = false := by decide) : PS X (.Raise (some (.Call (.Name x p) [.Constant (.str m) j p2] [] pos)) none pos') (TSt K ct W (evRaise c)) := (ps_raise hc tk (pmk_own Fx q gC kC r hg hdb)).imp fun D σ H ⟨fr, F, ρ, S, h⟩ => Sat.raise h S
theorem s_raise1 {X : Cx} {x : Str} {p pos pos' : Pos} {e : Expr} {fe : Ev} {bmB : List Value} {B newId initId : String} (c : Cl) (hc : X.calm = true) (tk : Takes X W) (Fx : ExcBaseFacts B newId initId bmB) (q : PySem.W.excIn X.K (ct.ad c) bmB newId = true) (gC : X.mg x = some (.ref (ct.ad c))) (kC : PySem.W.keepIn X.K (.ref (ct.ad c)) = true) (r : Raises X (.ref (ct.ad c))) (hg : Gl X x)
    (he : PE X e (TP K ct W fe)) (hs : starEach [e] X.env = (false, eval e X.env) :: starEach [] X.env := by rfl) (hdb : (x == ("__debug__" : Str)) = false := by decide) : PS X (.Raise (some (.Call (.Name x p) [e] [] pos)) none pos') (TSt K ct W (evRaise1 c fe)) := (ps_raise hc tk (SkE.pmk_own1 Fx q gC kC r hg he hs hdb)).imp fun D σ H ⟨fr, F, ρ, S, h⟩ =>
  Sat.bnd K ct h S (fun _ _ _ _ z => z) fun F1 H1 ρ1 v r s1 S1 r1 h => Sat.raise h S1
def noExn (ρ : List Sl) : Bool := ρ.all fun s => match s with | .exn _ _ => false | _ => true
theorem noExn_at (h : noExn ρ = true) {i : Nat} {c : Cl} {pl : Option D} : ρ[i]? ≠ some (.exn c pl) := fun e => by
  have := List.all_eq_true.mp h _ (List.mem_of_getElem? e)
  cases this
/-- another exception is held -/
theorem Rel.ek {ct' : CT} (S : Rel K ct fr F H σ ρ) (e : ct'.ad = ct.ad) (h : noExn ρ = true) : Rel K ct' fr F H σ ρ := by
  refine ⟨S.len, S.fh, fun i s z => ?_, S.dis, S.keep, S.fro, S.pcs⟩
  obtain ⟨o, g1, g2⟩ := S.slot i s z
  refine ⟨o, g1, ?_⟩
  cases s with
  | un => trivial
  | dat d => obtain ⟨v, a1, a2⟩ := g2; exact ⟨v, a1, by rw [e]; exact a2⟩
  | cel k c => obtain ⟨p, a1, a2, a3, a4, a5, a6⟩ := g2; exact ⟨p, a1, a2, a3, a4, a5, by rw [e]; exact a6⟩
  | exn c pl => exact absurd z (noExn_at h)
theorem Rel.setX (S : Rel K ct fr F H σ ρ) {i : Nat} {c : Cl} {pl : Option D} (h : ct.ecl = .ref (ct.ad c)) (r : PlR K ct.ad F c pl ct.ed) (np : fr.pa i = none) : Rel K ct fr F H (σ.set i (some (.ref ct.ea))) (ρ.set i (.exn c pl)) := by
  have dn : ∀ {j : Nat} {k : CK} {c1 : CC}, (ρ.set i (.exn c pl))[j]? = some (.cel k c1) → j ≠ i ∧ ρ[j]? = some (.cel k c1) := fun {j k c1} e => by
    by_cases q : i = j
    · subst q
      by_cases l : i < ρ.length
      · rw [List.getElem?_set_self l] at e; cases e
      · rw [List.getElem?_eq_none (by simp; omega)] at e; cases e
    · rw [List.getElem?_set_ne q] at e; exact ⟨fun z => q z.symm, e⟩
  refine ⟨by simp [S.len], S.fh, fun j s e => ?_, fun a b k c k' c' p e1 e2 e3 e4 => ?_, S.keep, S.fro, fun j p e => ?_⟩
  · by_cases q : i = j
    · subst q
      by_cases l : i < ρ.length
      · rw [List.getElem?_set_self l] at e
        cases e
        exact ⟨_, by rw [List.getElem?_set_self (by rw [S.len]; exact l)], rfl, h, r⟩
      · rw [List.getElem?_eq_none (by simp; omega)] at e; cases e
    · rw [List.getElem?_set_ne q] at e
      obtain ⟨o, h1, h2⟩ := S.slot j s e
      exact ⟨o, by rw [List.getElem?_set_ne q]; exact h1, h2⟩
  · obtain ⟨n1, f1⟩ := dn e1
    obtain ⟨n2, f2⟩ := dn e2
    rw [List.getElem?_set_ne (Ne.symm n1)] at e3
    rw [List.getElem?_set_ne (Ne.symm n2)] at e4
    exact S.dis a b _ _ _ _ p f1 f2 e3 e4
  · obtain ⟨k, c, h1, h2⟩ := S.pcs j p e
    refine ⟨k, c, ?_, h2⟩
    rw [List.getElem?_set_ne (fun q => by rw [q, e] at np; cases np)]
    exact h1
variable (K ad) in
inductive CatOk (cv : Value) : List (Cl × Bool) → Prop
  | nil : CatOk cv []
  | cons {c : Cl} {b : Bool} {r : List (Cl × Bool)} (h : PySem.W.exmOne K (.ref (ad c)) cv = some b) (t : CatOk cv r) : CatOk cv ((c, b) :: r)
theorem CatOk.get {cv : Value} : ∀ {cat : List (Cl × Bool)} {c : Cl} {b : Bool}, CatOk K ad cv cat → cat.lookup c = some b → PySem.W.exmOne K (.ref (ad c)) cv = some b
  | _, _, _, .nil, h => by cases h
  | _, c, b, .cons (c := c0) (b := b0) h t, e => by
    rw [List.lookup_cons] at e
    cases q : c == c0 with
    | true => rw [q] at e; have e : some b0 = some b := e; cases e; have := beq_iff_eq.mp q; subst this; exact h
    | false => rw [q] at e; exact t.get e
/-- what is behind a suite -/
def suiteO (s : M Fl) : M Fl := fun ρ => if noExn ρ then match s ρ with
  | some (.ok f, ρ2) => if noExn ρ2 then some (.ok f, ρ2) else none
  | _ => none else none
def suiteA (i : Nat) (c : Cl) (pl : Option D) (s : M Fl) : M Fl := fun ρ => if noExn ρ then (match ρ[i]? with
  | some (.cel .par _) => none
  | some _ => (match s (ρ.set i (.exn c pl)) with
    | some (.ok f, ρ2) => if noExn (ρ2.set i .un) then some (.ok f, ρ2.set i .un) else none
    | _ => none)
  | none => none) else none
def evTryO (body : M Fl) (cat : List (Cl × Bool)) (s : M Fl) : M Fl := fun ρ => match body ρ with
  | some (.er c pl, ρ1) => (match cat.lookup c with
    | some true => suiteO s ρ1
    | some false => some (.er c pl, ρ1)
    | none => none)
  | r => r
def evTryA (i : Nat) (body : M Fl) (cat : List (Cl × Bool)) (s : M Fl) : M Fl := fun ρ => match body ρ with
  | some (.er c pl, ρ1) => (match cat.lookup c with
    | some true => suiteA i c pl s ρ1
    | some false => some (.er c pl, ρ1)
    | none => none)
  | r => r
/-- the context of a suite -/
abbrev CT.su (ct : CT) (a : Addr) (cls : Value) (d : Option Addr) : CT := { ct with ea := a, ecl := cls, ed := d }
theorem w_tryA {i : Nat} {cv : Value} {body s : M Fl} {cat : List (Cl × Bool)} {D : Ends} (C : CatOk K ct.ad cv cat) (h : TSt K ct W (evTryA i body cat s) D σ H) : TSt K ct (wAs K cv i (fun a cls d => TSt K (ct.su a cls d) WF s) W D) body D σ H := by
  obtain ⟨fr, F, ρ, S, r, ρ', e, q⟩ := h
  refine ⟨fr, F, ρ, S, ?_⟩
  unfold evTryA at e
  cases eb : body ρ with
  | none => rw [eb] at e; cases e
  | some x =>
    obtain ⟨rb, ρ1⟩ := x
    rw [eb] at e
    refine ⟨rb, ρ1, eb, ?_⟩
    cases rb with
    | ok f => cases e; cases f <;> exact q
    | er c pl =>
      intro σ1 d F1 H1 s1 S1 pr
      have e : (match cat.lookup c with | some true => suiteA i c pl s ρ1 | some false => some (.er c pl, ρ1) | none => none) = some (r, ρ') := e
      cases ec : cat.lookup c with
      | none => rw [ec] at e; cases e
      | some b =>
        rw [ec] at e
        refine ⟨b, C.get ec, fun hb a ha => ?_, fun hb => ?_⟩
        · subst hb
          have e : suiteA i c pl s ρ1 = some (r, ρ') := e
          unfold suiteA at e
          split at e
          · rename_i n1
            split at e
            · cases e
            · rename_i sl hn hsl
              have np := S1.npar hsl hn
              split at e
              · rename_i f ρs es
                split at e
                · rename_i n2
                  cases e
                  have S3 : Rel K (ct.su a (.ref (ct.ad c)) d) fr F1 H1 σ1 ρ1 := S1.ek rfl n1
                  refine ⟨fr, F1, _, S3.setX rfl pr np, .ok f, _, es, ?_⟩
                  cases f with
                  | nx => exact fun σ2 F2 H2 s2 S2 => q _ F2 H2 (s1.trans s2) ((S2.setU np).ek rfl n2)
                  | bk => exact fun σ2 F2 H2 s2 S2 => q _ F2 H2 (s1.trans s2) ((S2.setU np).ek rfl n2)
                  | ct => exact fun σ2 F2 H2 s2 S2 => q _ F2 H2 (s1.trans s2) ((S2.setU np).ek rfl n2)
                  | rt x =>
                    intro σ2 v F2 H2 s2 S2 rv
                    refine q σ2 v F2 H2 (s1.trans s2) ((S2.unR np).ek rfl n2) ?_
                    cases x with
                    | d d => exact rv
                    | c c =>
                      obtain ⟨p, ev, f1, f2, f3, f4, f5⟩ := rv
                      refine ⟨p, ev, f1, f2, f3, f4, fun j k c' z1 z2 => ?_⟩
                      by_cases w : i = j
                      · subst w
                        rw [List.getElem?_set] at z1
                        split at z1
                        · split at z1 <;> cases z1
                        · rename_i w; exact absurd rfl w
                      · rw [List.getElem?_set_ne w] at z1; exact f5 j k c' z1 z2
                · cases e
              · cases e
            · cases e
          · cases e
        · subst hb
          cases e
          exact q σ1 d F1 H1 s1 S1 pr
section
variable {X : Cx} {x n : Str} {cv : Value} {body suite : List Stmt} {b₀ : Stmt} {np pos pos' : Pos} {mb ms : M Fl} {cat : List (Cl × Bool)}
theorem s_tryA {i : Nat} (eK : X.K = K) (hs : X.stack = X.env :: X.outer) (hf : X.env.frame = some X.env.locals) (hN : X.N.Nodup) (hi : X.N[i]? = some n) (hln : X.env.kindOf n = some .local) (hc : Names X x cv) (tk : Takes X W) (C : CatOk K ct.ad cv cat)
    (hb : ∀ (W : WX) (pn : List (Addr × Obj)) (xe : Value → Shared → Prop), Takes (X.tr pn xe) W → PassesOwn (model X.prog X.w) X.A X.env xe → PSs (X.tr pn xe) body (TSt K ct W mb))
    (hsu : ∀ (a : Addr) (oe : Obj) (cls : Value) (d : Option Addr) (pn : List (Addr × Obj)), Zc cls d oe → (∃ vs, oe.data = .fields vs) → PSs (X.suite a ((a, oe) :: pn)) (b₀ :: suite) (TSt K (ct.su a cls d) WF ms)) :
    PS X (.Try body [.ExceptHandler (some (.Name x np)) (some n) (b₀ :: suite) pos'] [] [] pos) (TSt K ct W (evTryA i mb cat ms)) := by
  subst eK
  exact (ps_try_as hs hf hN hi hln hc tk hb hsu).imp fun D σ H => w_tryA C
end
/-! in a suite: isinstance of the exception -/
def evIsE (i : Nat) (tbl : List (TyN × Bool)) : Ev := fun ρ => match ρ[i]? with
  | some (.exn c _) => (tbl.lookup (.o c)).map fun b => (.ok (.d (.bl b)), ρ)
  | _ => none
variable (K ad) in
inductive IseOk (u : Value) : List (TyN × Bool) → Prop
  | nil : IseOk u []
  | o {c : Cl} {x : Bool} {r : List (TyN × Bool)} (h : PySem.W.kitOne K (.ref (ad c)) u = some x) (k : ExcC K (ad c)) (t : IseOk u r) : IseOk u ((.o c, x) :: r)
theorem IseOk.get {u : Value} : ∀ {tbl : List (TyN × Bool)} {c : Cl} {x : Bool}, IseOk K ad u tbl → tbl.lookup (.o c) = some x → PySem.W.kitOne K (.ref (ad c)) u = some x ∧ ExcC K (ad c)
  | _, _, _, .nil, h => by cases h
  | _, c, x, .o (c := c0) (x := y) (r := r) h k0 k, e => by
    rw [List.lookup_cons] at e
    cases q : TyN.o c == TyN.o c0 with
    | true => rw [q] at e; have e : some y = some x := e; cases e; have := beq_iff_eq.mp q; cases this; exact ⟨h, k0⟩
    | false => rw [q] at e; exact k.get e
theorem pp_isE {X : Cx} {a : Addr} {oe : Obj} {cls : Value} {d : Option Addr} {pn : List (Addr × Obj)} {x : Str} {p p2 pos : Pos} {c : Expr} {cv : V} {u : Value} {tbl : List (TyN × Bool)} (i : Nat) (eK : X.K = K) (hz : Zc cls d oe) (hf : ∃ vs, oe.data = .fields vs) (T : IseOk K ct.ad u tbl) (hcv : ∀ w, RelV cv w → w = u) (hg : Gl (X.suite a ((a, oe) :: pn)) "isinstance") (hm : X.mg "isinstance" = none)
    (he : PE (X.suite a ((a, oe) :: pn)) (.Name x p2) (tVar i)) (hc : PE (X.suite a ((a, oe) :: pn)) c (tC cv))
    (h1 : starEach ((.Name x p2) :: [c]) X.env = (false, eval (.Name x p2) X.env) :: starEach [c] X.env := by rfl) (h2 : starEach [c] X.env = (false, eval c X.env) :: starEach [] X.env := by rfl) (hpl : (backTo pos (starEach [c] X.env)).any (·.1) = false := by rfl) :
    PE (X.suite a ((a, oe) :: pn)) (.Call (.Name "isinstance" p) [.Name x p2, c] [] pos) (TP K (ct.su a cls d) W (evIsE i tbl)) := by
  subst eK
  refine (pe_callB (x := "isinstance") (OW.c_isEE hz hf) hg hm (by decide +kernel) (pa_cons he (pa_cons hc pa_nil h2) h1) (by decide) (by decide) h1 hpl).imp fun σ H Q h => ?_
  obtain ⟨fr, F, ρ, S, r, ρ', e, q⟩ := h
  unfold evIsE at e
  split at e
  · rename_i c0 pl0 e1
    obtain ⟨b, e2, e3⟩ := map_some e
    cases e3
    obtain ⟨o, g1, g2, g3, g4⟩ := S.slot i _ e1
    subst g2
    obtain ⟨t1, t2⟩ := T.get e2
    refine ⟨_, g1, ct.ad c0, cv, u, b, rfl, g3, ?_, t2, hcv, t1, q _ F H (Same.refl _) S (Rp.bl b)⟩
    cases pl0 with
    | none => exact .inl g4
    | some d0 =>
      obtain ⟨dx, f', v, h1, h2, h3, h4⟩ := g4
      exact .inr ⟨dx, _, h1, S.fh _ _ h3⟩
  · cases e
/-! in a suite: the exception's field -/
def evXf (i : Nat) (c : Cl) : Ev := fun ρ => match ρ[i]? with
  | some (.exn c' (some d)) => if c' = c then some (.ok (.d d), ρ) else none
  | _ => none
theorem pp_xf {X : Cx} {a : Addr} {oe : Obj} {cls : Value} {d : Option Addr} {pn : List (Addr × Obj)} {x f : Str} {p pos : Pos} (i : Nat) (c : Cl) (eK : X.K = K) (T : XfC X.K (ct.ad c)) (hno : PySem.W.findIn X.K (.ref (ct.ad c)) f = some none) (hz : Zc cls d oe) (hf : ∃ vs, oe.data = .fields vs) (hfn : c.fn = [f])
    (he : PE (X.suite a ((a, oe) :: pn)) (.Name x p) (tVar i)) (hb : attributeBase (.Name x p) f X.env (eval (.Name x p) X.env) = eval (.Name x p) X.env := by rfl) : PE (X.suite a ((a, oe) :: pn)) (.Attribute (.Name x p) f pos) (TP K (ct.su a cls d) W (evXf i c)) := by
  subst eK
  refine (pe_xf T hno hz hf he hb).imp fun σ H Q h => ?_
  obtain ⟨fr, F, ρ, S, r, ρ', e, q⟩ := h
  unfold evXf at e
  split at e
  · rename_i c0 d0 e1
    split at e
    · rename_i ec
      subst ec
      cases e
      obtain ⟨o, g1, g2, g3, dd, f', v, h1, h2, h3, h4⟩ := S.slot i _ e1
      subst g2
      rw [hfn] at h2
      cases h2
      refine ⟨_, g1, rfl, g3, dd, _, v, h1, S.fh _ _ h3, ?_, q _ F H (Same.refl _) S h4⟩
      simp [List.lookup]
    · cases e
  · cases e
/-! ### walks over own objects -/
def itO (c : Cl) (i : Nat) (e : Ev) : M (List D) := bnd (dat e) fun d => match d with
  | .obj c' xs => if c' = c then (match xs[i]? with | some (.tup ys) => pur ys | _ => fai) else fai
  | _ => fai
/-- an __iter__ that walks a field that is a tuple -/
def spIt (K : PySem.W.Frag) (C : Addr) (f : Str) (n : Nat) : Sp := fun vs H Q _ => ∃ (p dx t : Addr) (fs : List (Str × V)) (zs : List V), vs = [.ref p] ∧ H p = some (.ins C dx fs) ∧ fs.lookup f = some (.ref t) ∧ SqT K H t zs ∧ ∀ it, H it = none → n ≤ it → Q (.ref it) (upd H it (OW.TIt t it))
theorem pi_o {X : Cx} {tg e : Expr} {fe : Ev} {k : Nat} {g : Addr} {fd : FuncData} {ps : List Str} {f : Str} (c : Cl) (i : Nat) (eK : X.K = K) (he : PE X e (TP K ct W fe)) (M : Meth X.K (ct.ad c) "__iter__" g) (Fn : OW.FnS X.prog X.w X.K X.mg X.base k g fd ps (spIt K (ct.ad c) f)) (room : Room k X.A) (bd : Binds X.K fd ps []) (hi : c.fn.findIdx? (fun k => f == k) = some i := by decide) : PI X tg e (TIt K ct W (itO c i fe)) := by
  subst eK
  refine (OW.pi_own he M Fn room bd).imp fun σ H R h => ?_
  obtain ⟨fr, F, ρ, S, h⟩ := h
  unfold itO at h
  refine Tat.obj (k := fun xs => match xs[i]? with | some (.tup ys) => pur ys | _ => (fai : PL.M (List D))) h S fun F1 H1 ρ1 a dx vs xs s1 S1 h1 l1 k1 h => ?_
  have h : Tat X.K ct (RI X.K ct.ad) W fr F1 ρ1 (match xs[i]? with | some (.tup ys) => pur ys | _ => fai) σ R := h
  split at h
  · rename_i ys e1
    obtain ⟨v, g1, g2⟩ := k1.get e1
    cases g2 with
    | @tup t us _ h2 k2 =>
      refine ⟨a, dx, _, rfl, S1.fh _ _ h1, fun n => ⟨a, dx, t, _, us, rfl, S1.fh _ _ h1, by rw [look_zip l1 hi, g1], sameT S1.fh h2, fun it fresh young => ⟨it, t, rfl, young, fresh, rfl, Tat.ok h _ F1 H1 (Same.refl _) S1 (it_tup h2 k2)⟩⟩⟩
  · obtain ⟨_, _, e, _⟩ := h; cases e
end PL
end
section
namespace PL
open PySem PySem.Spec PyProof.Rows L2
variable {K : PySem.W.Frag} {ad : Cl → Addr} {ct : CT}
variable {fr : Fr} {F F' H H' : Hp} {σ : L2.St} {ρ : List Sl} {W : WX}
/-! ### a list that may change is looked at -/
mutual
def D.lfree : D → Bool
  | .non => true | .bl _ => true | .int _ => true | .str _ => true | .cl _ => true
  | .tup xs => D.lfrees xs
  | .obj _ xs => D.lfrees xs
  | _ => false
def D.lfrees : List D → Bool
  | [] => true
  | x :: xs => x.lfree && D.lfrees xs
end
/-- a heap without p -/
def era (F : Hp) (p : Addr) : Hp := fun b => if b = p then none else F b
theorem era_ne {F : Hp} {p b : Addr} (h : b ≠ p) : era F p b = F b := if_neg h
theorem era_same {F : Hp} {p : Addr} : era F p p = none := if_pos rfl
mutual
theorem Rp.era {F : Hp} {p : Addr} {us : List V} (hp : F p = some (.lst us)) : ∀ {v : V} {d : D}, Rp K ad F v d → d.lfree = true → Rp K ad (PL.era F p) v d
  | _, _, .non, _ => .non
  | _, _, .bl b, _ => .bl b
  | _, _, .int i, _ => .int i
  | _, _, .str x, _ => .str x
  | _, _, .cl c, _ => .cl c
  | _, _, .tup (p := q) h r, e => .tup (by
      have ne : ∀ {o : HO}, F q = some o → (∀ xs, o ≠ .lst xs) → PL.era F p q = F q := fun {o} w z => era_ne fun y => by
        rw [y, hp] at w
        cases w
        exact z _ rfl
      (rcases h with (h | ⟨o, h⟩) | h)
      · exact .inl (.inl (by rw [ne h (fun _ z => by cases z)]; exact h))
      · exact .inl (.inr ⟨o, by rw [ne h (fun _ z => by cases z)]; exact h⟩)
      · exact .inr h) (Rps.era hp r e)
  | _, _, .obj (p := q) h l r, e => .obj (by rw [era_ne fun y => by rw [y, hp] at h; cases h]; exact h) l (Rps.era hp r e)
  | _, _, .lst _ _, e => by cases e
  | _, _, .sq _ _, e => by cases e
  | _, _, .dK _ _ _, e => by cases e
  | _, _, .dT _ _ _, e => by cases e
theorem Rps.era {F : Hp} {p : Addr} {us : List V} (hp : F p = some (.lst us)) : ∀ {vs : List V} {ds : List D}, Rps K ad F vs ds → D.lfrees ds = true → Rps K ad (PL.era F p) vs ds
  | _, _, .nil, _ => .nil
  | _, _, .cons (d := d) (ds := ds) h r, e => by
    have e : (d.lfree && D.lfrees ds) = true := e
    rw [Bool.and_eq_true] at e
    exact .cons (Rp.era hp h e.1) (Rps.era hp r e.2)
end
def Rv.lfree : Rv → Bool
  | .d x => x.lfree
  | .c (.lst xs) => D.lfrees xs
  | _ => false
/-- the slots as a look sees them -/
def lkS (j : Nat) (xs : List D) : Nat → List Sl → List Sl
  | _, [] => []
  | i, .cel _ _ :: r => (if i = j then .dat (.lst xs) else .un) :: lkS j xs (i + 1) r
  | i, s :: r => s :: lkS j xs (i + 1) r
theorem lkS_len (j : Nat) (xs : List D) : ∀ (i : Nat) (r : List Sl), (lkS j xs i r).length = r.length
  | _, [] => rfl
  | i, s :: r => by cases s <;> exact congrArg (· + 1) (lkS_len j xs (i + 1) r)
theorem lkS_get (j : Nat) (xs : List D) : ∀ (i : Nat) (r : List Sl) (n : Nat), (lkS j xs i r)[n]? = (r[n]?).map fun s => match s with | .cel _ _ => if i + n = j then .dat (.lst xs) else .un | s => s
  | _, [], _ => by simp [lkS]
  | i, s :: r, 0 => by cases s <;> simp [lkS]
  | i, s :: r, n + 1 => by
    have e : (lkS j xs i (s :: r))[n + 1]? = (lkS j xs (i + 1) r)[n]? := by cases s <;> rfl
    rw [e, lkS_get j xs (i + 1) r n, List.getElem?_cons_succ, show i + 1 + n = i + (n + 1) by omega]
def look {α : Type} (j : Nat) (ok : α → Bool) (m : M α) : M α := fun ρ => match ρ[j]? with
  | some (.cel _ (.lst xs)) => (match m (lkS j xs 0 ρ) with
    | some (.ok r, _) => if ok r then some (.ok r, ρ) else none
    | _ => none)
  | _ => none
def lkFr (fr : Fr) (F1 H : Hp) : Fr := ⟨fun b => if F1 b = none then H b else none, F1, fun _ => none⟩
theorem w_look {α β : Type} {R : Rel3 β α} {j : Nat} {good : α → Bool} {m : M α} {Q : β → Hp → Prop}
    (hR : ∀ {p : Addr} {us : List V} {F1 F' H' : Hp} {ρ' : List Sl} {v : β} {r : α}, F1 p = some (.lst us) → F p = none → H p = some (.lst us) → Rel K ct fr F H σ ρ → Rel K ct fr (era F' p) H' σ ρ → Same F1 F' → (∀ b, F1 b = none → H b ≠ none → b ≠ p) → (∀ b, b ≠ p → F1 b = F b) → good r = true → R (lkFr fr F1 H) F' H' σ ρ' v r → R fr (era F' p) H' σ ρ v r)
    (S : Rel K ct fr F H σ ρ) (h : Tat K ct R W fr F ρ (look j good m) σ Q) : T K ct R W m σ H Q := by
  obtain ⟨r, ρ', e, q⟩ := h
  unfold look at e
  split at e
  · rename_i k xs hj
    split at e
    · rename_i r0 ρ2 em
      split at e
      · rename_i hg
        cases e
        obtain ⟨o, g1, p, g2, g3, g4, g5, g6, us, g7, g8⟩ := S.slot j _ hj
        subst g2
        have s01 : Same F (upd F p (.lst us)) := fun b o z => by rw [upd_ne (ne_of_none z g3)]; exact z
        have S1 : Rel K ct (lkFr fr (upd F p (.lst us)) H) (upd F p (.lst us)) H σ (lkS j xs 0 ρ) := by
          have nc : ∀ {i : Nat} {k : CK} {c : CC}, (lkS j xs 0 ρ)[i]? ≠ some (.cel k c) := fun {i k c} z => by
            rw [lkS_get] at z
            cases y : ρ[i]? with
            | none => rw [y] at z; cases z
            | some s =>
              rw [y] at z
              cases s <;> simp at z
              split at z <;> cases z
          refine ⟨by rw [lkS_len]; exact S.len, fun b o z => ?_, fun i s z => ?_, fun a b k c k' c' p e1 _ _ _ => absurd e1 nc, fun b o z => ?_, fun b hb h0 => h0, fun i p z => by cases z⟩
          · by_cases y : b = p
            · subst y; rw [upd_same] at z; cases z; exact g7
            · rw [upd_ne y] at z; exact S.fh _ _ z
          · rw [lkS_get] at z
            cases y : ρ[i]? with
            | none => rw [y] at z; cases z
            | some s0 =>
              rw [y] at z
              obtain ⟨o, h1, h2⟩ := S.slot i _ y
              refine ⟨o, h1, ?_⟩
              cases s0 with
              | un => simp at z; subst z; trivial
              | dat d => simp at z; subst z; obtain ⟨v, a1, a2⟩ := h2; exact ⟨v, a1, a2.mono s01⟩
              | exn c pl => simp at z; subst z; exact ⟨h2.1, h2.2.1, h2.2.2.mono s01⟩
              | cel k c =>
                simp at z
                by_cases w : i = j
                · subst w
                  simp at z
                  subst z
                  rw [g1] at h1
                  cases h1
                  exact ⟨_, rfl, .lst upd_same (g8.mono s01)⟩
                · rw [if_neg w] at z
                  subst z
                  trivial
          · have z : (if upd F p (.lst us) b = none then H b else none) = some o := z
            split at z
            · exact z
            · cases z
        refine ⟨_, _, _, S1, .ok r0, ρ2, em, fun v F' H' s R1 rv => ?_⟩
        have P1 : ∀ b, upd F p (.lst us) b = none → (lkFr fr (upd F p (.lst us)) H).P b = H b := fun b z => if_pos z
        have hh : Same H H' := fun b o z => by
          cases y : upd F p (.lst us) b with
          | none => exact R1.keep b o (by rw [P1 b y]; exact z)
          | some o' =>
            have := S1.fh _ _ y
            rw [z] at this
            cases this
            exact R1.fh _ _ (s _ _ y)
        have al : Al F H (era F' p) H' := ⟨fun b o z => by rw [era_ne (ne_of_none z g3)]; exact s _ _ (s01 _ _ z), hh, fun b o z => by
          by_cases y : b = p
          · subst y; rw [era_same] at z; cases z
          · rw [era_ne y] at z; exact R1.fh _ _ z, fun b hb h0 => by
          by_cases y : b = p
          · subst y; exact era_same
          · rw [era_ne y]
            have z : upd F p (.lst us) b = none := by rw [upd_ne y]; exact h0
            exact R1.fro b (by rw [P1 b z]; exact hb) z⟩
        have S2 := S.al al
        exact q v _ H' al.1 S2 (hR upd_same g3 g7 S S2 s (fun b z _ y => by subst y; rw [upd_same] at z; cases z) (fun b y => upd_ne y) hg rv)
      · cases e
    · cases e
  · cases e
theorem look_v {X : Cx} {e : Expr} {m : Ev} (j : Nat) (h : PE X e (TP K ct W m)) : PE X e (TP K ct W (look j Rv.lfree m)) := h.imp fun σ H Q ⟨fr, F, ρ, S, h⟩ => by
  refine w_look (fun {p us F1 F' H' ρ' v r} h1 h2 h3 S S2 s nb eq hg rv => ?_) S h
  have hp : F' p = some (.lst us) := s _ _ h1
  cases r with
  | d d => exact Rp.era hp rv hg
  | c c =>
    cases c with
    | lst xs =>
      obtain ⟨p', e1, f1, f2, f3, ⟨vs, f4, f6⟩, f5⟩ := rv
      have f2 : (if F1 p' = none then H p' else none) = none := f2
      have n1 : F1 p' = none := by
        cases y : F1 p' with
        | none => rfl
        | some o => rw [s _ _ y] at f1; cases f1
      rw [if_pos n1] at f2
      have np : p' ≠ p := fun y => by rw [y, h3] at f2; cases f2
      refine ⟨p', e1, by rw [era_ne np]; exact f1, S.np f2, fun i z => ?_, ⟨vs, f4, Rps.era hp f6 hg⟩, fun i k c z1 z2 => ?_⟩
      · obtain ⟨k, c, y1, y2⟩ := S.pcs i _ z
        obtain ⟨o, a1, p2, a2, a3, a4, a5, a6, a7⟩ := S.slot i _ y1
        rw [a5 y2] at z
        cases z
        obtain ⟨o, ho⟩ := a7.at
        rw [f2] at ho
        cases ho
      · obtain ⟨p2, o, y1, y2⟩ := S.cell_at z1
        rw [y1] at z2
        cases z2
        rw [f2] at y2
        cases y2
    | _ => cases hg
theorem look_b {X : Cx} {e : Expr} {m : M Bool} (j : Nat) (h : PT X e (TB K ct W m)) : PT X e (TB K ct W (look j (fun _ => true) m)) := h.imp fun σ H Q ⟨fr, F, ρ, S, h⟩ => w_look (fun {p us F1 F' H' ρ' v r} h1 h2 h3 S S2 s nb eq hg rv => rv) S h
/-! ### truth -/
def D.truth : D → Option Bool
  | .bl b => some b | .int i => some (decide (i ≠ 0)) | .non => some false
  | .lst xs => some (!xs.isEmpty) | .sq xs => some (!xs.isEmpty) | .tup xs => some (!xs.isEmpty)
  | _ => none
theorem Rps.emp {F : Hp} : ∀ {vs : List V} {ds : List D}, Rps K ad F vs ds → vs.isEmpty = ds.isEmpty
  | _, _, .nil => rfl
  | _, _, .cons _ _ => rfl
theorem Rp.tru {F H : Hp} {v : V} {d : D} {b : Bool} (s : Same F H) (r : Rp K ad F v d) (h : d.truth = some b) : TruV K v H b := by
  cases r with
  | non => cases h; rfl
  | bl _ => cases h; rfl
  | int i => cases h; show _ = _; by_cases e : i = 0 <;> simp [e]
  | str _ => cases h
  | tup h1 k1 => cases h; exact .inr (.inl ⟨_, sameT s h1, by rw [k1.emp]⟩)
  | lst h1 k1 => cases h; exact .inl ⟨_, .inl (.inl (s _ _ h1)), by rw [k1.emp]⟩
  | sq h1 k1 => cases h; exact .inl ⟨_, s.seq h1, by rw [k1.emp]⟩
  | obj _ _ _ => cases h
  | cl _ => cases h
  | dK _ _ _ => cases h
  | dT _ _ _ => cases h
def tTr (m : Ev) : M Bool := bnd (dat m) fun d => opt d.truth
def vNoT (m : Ev) : Ev := bnd (dat m) fun d => opt (d.truth.map fun b => Rv.d (.bl (!b)))
theorem pp_ttr {X : Cx} {a : Expr} {m : Ev} (eK : X.K = K) (ha : PE X a (TP K ct W m)) (he : ∀ whole, isTrue a X.env whole = (do let v ← whole; standAt a.pos; holding [v] (truthy v)) := by intro _; rfl) : PT X a (TB K ct W (tTr m)) := by
  subst eK
  refine (pt_truth ha he).imp fun σ H Q ⟨fr, F, ρ, S, h⟩ => ?_
  refine Tat.dat h S fun F1 H1 ρ1 v d s1 S1 r1 h => ?_
  obtain ⟨b, e, q⟩ := h.opt
  exact ⟨b, r1.tru S1.fh e, q b F1 H1 (Same.refl _) S1 rfl⟩
/-! ### [::-1] -/
def evRev (m : Ev) : Ev := bnd (dat m) fun d => match d.litems with | some xs => pur (.c (.lst xs.reverse)) | none => fai
theorem pp_rev {X : Cx} {e : Expr} {m : Ev} {k : Nat} {p1 p2 p3 pos : Pos} (eK : X.K = K) (he : PE X e (TP K ct W m)) : PE X (.Subscript e (.Slice none none (some (.UnaryOp .USub (.Constant (.int 1) k p1) p2)) p3) pos) (TP K ct W (evRev m)) := by
  subst eK
  refine (pe_revL he).imp fun σ H Q ⟨fr, F, ρ, S, h⟩ => ?_
  refine Tat.dat h S fun F1 H1 ρ1 v d s1 S1 r1 h => ?_
  cases el : d.litems with
  | none => rw [el] at h; obtain ⟨_, _, e, _⟩ := h; cases e
  | some xs =>
    rw [el] at h
    have key : ∀ {a : Addr} {vs : List V}, SqL X.K H1 a vs → Rps X.K ct.ad F1 vs xs → ∃ a' ys, V.ref a = .ref a' ∧ SqL X.K H1 a' ys ∧ ∀ p, H1 p = none → Q (.ref p) (upd H1 p (.lst ys.reverse)) := fun {a vs} h1 k1 => ⟨a, vs, rfl, h1, fun p hp => Tat.ok h _ F1 _ (Same.refl _) (S1.newC hp) ⟨p, rfl, S1.fresh hp ⟨_, upd_same, k1.rev⟩⟩⟩
    cases r1 with
    | lst h1 k1 => cases el; exact key (.inl (.inl (S1.fh _ _ h1))) k1
    | sq h1 k1 => cases el; exact key (S1.fh.seq h1) k1
    | _ => cases el
end PL
end
section
namespace PL
open PySem PySem.Spec PyProof.Rows L2
variable {K : PySem.W.Frag} {ad : Cl → Addr} {ct : CT}
variable {fr : Fr} {F F' H H' : Hp} {σ : L2.St} {ρ : List Sl} {W : WX}
/-! ### a op b op c op d as a test -/
def ch3 (g g' g'' : D → D → Option D) (a b c d : Ev) : M Bool := bnd (dat a) fun x => bnd (dat b) fun y => bnd (opt (g x y)) fun z => match z with
  | .bl true => bnd (dat c) fun u => bnd (opt (g' y u)) fun z2 => (match z2 with
    | .bl true => bnd (dat d) fun v => bnd (opt (g'' u v)) fun z3 => (match z3 with | .bl k => pur k | _ => fai)
    | .bl false => pur false
    | _ => fai)
  | .bl false => pur false
  | _ => fai
theorem pp_tch3 {X : Cx} {a b c d : Expr} {fa fb fc fd : Ev} {pos : Pos} {op op' op'' : CmpOp} {r r' r'' : R2} {g g' g'' : D → D → Option D} (h1 : OpR X (compareOp op) r) (h2 : OpR X (compareOp op') r') (h3 : OpR X (compareOp op'') r'') (O : O2 K ct.ad r g) (O' : O2 K ct.ad r' g') (O'' : O2 K ct.ad r'' g'')
    (ha : PE X a (TP K ct W fa)) (hb : PE X b (TP K ct W fb)) (hc : PE X c (TP K ct W fc)) (hd : PE X d (TP K ct W fd)) (hm : lastMarks [op, op', op''] [b, c, d] = false := by with_unfolding_all rfl) :
    PT X (.Compare a [op, op', op''] [b, c, d] pos) (TB K ct W (ch3 g g' g'' fa fb fc fd)) := (OW.pt_chain3 h1 h2 h3 ha hb hc hd hm).imp fun σ H Q ⟨fr, F, ρ, S, h⟩ => by
  refine Tat.dat h S fun F1 H1 ρ1 x dx s1 S1 r1 h => ?_
  refine Tat.dat h S1 fun F2 H2 ρ2 y dy s2 S2 r2 h => ?_
  obtain ⟨z, ez, h⟩ := h.optb
  refine O S2.fh (r1.mono s2) r2 ez fun v rv => ?_
  cases z with
  | bl k =>
    cases rv
    refine ⟨k, rfl, ?_⟩
    cases k with
    | false => exact Tat.ok (a := false) h _ F2 H2 (Same.refl _) S2 rfl
    | true =>
      refine Tat.dat h S2 fun F3 H3 ρ3 u du s3 S3 r3 h => ?_
      obtain ⟨z2, ez2, h⟩ := h.optb
      refine O' S3.fh (r2.mono s3) r3 ez2 fun v rv => ?_
      cases z2 with
      | bl k2 =>
        cases rv
        refine ⟨k2, rfl, ?_⟩
        cases k2 with
        | false => exact Tat.ok (a := false) h _ F3 H3 (Same.refl _) S3 rfl
        | true =>
          refine Tat.dat h S3 fun F4 H4 ρ4 w dw s4 S4 r4 h => ?_
          obtain ⟨z3, ez3, h⟩ := h.optb
          refine O'' S4.fh (r3.mono s4) r4 ez3 fun v rv => ?_
          cases z3 with
          | bl k3 => cases rv; exact ⟨k3, rfl, Tat.ok (a := k3) h _ F4 H4 (Same.refl _) S4 rfl⟩
          | _ => obtain ⟨_, _, e, _⟩ := h; cases e
      | _ => obtain ⟨_, _, e, _⟩ := h; cases e
  | _ => obtain ⟨_, _, e, _⟩ := h; cases e
/-! ### a class's constant -/
theorem pp_cval {X : Cx} {x f : Str} {p pos : Pos} {d : D} {v : V} (c : Cl) (hm : X.mg x = some (.ref (ct.ad c))) (r : ClX.CRead X.K (ct.ad c) (.type "type")) (hv : ∃ u, PySem.W.findCls X.K (.ref (ct.ad c)) (.type "type") f = some (.val u) ∧ RelV v u) (hg : Gl X x := by rfl) (hdb : (x == ("__debug__" : Str)) = false := by decide)
    (hb : attributeBase (.Name x p) f X.env (eval (.Name x p) X.env) = eval (.Name x p) X.env := by rfl) (hd : d.toV = some v := by rfl) : PE X (.Attribute (.Name x p) f pos) (TP K ct W (vD d)) :=
  (ClX.pe_cval (C8.pe_gc (v := .ref (ct.ad c)) hg ⟨_, hm, rfl⟩ hdb) hb).imp fun σ H Q ⟨fr, F, ρ, S, h⟩ => by
  obtain ⟨u, h1, h2⟩ := hv
  exact ⟨_, _, v, u, rfl, r, ⟨h1, h2⟩, Tat.ok (a := Rv.d d) h v F H (Same.refl _) S (D.toV_rp hd)⟩
/-! ### dicts that change, their keys ints or texts -/
def D.key : D → Option Key | .int i => some (.inl i) | .str s => some (.inr s) | _ => none
theorem Rp.key {F : Hp} {v : V} {d : D} {k : Key} (r : Rp K ad F v d) (h : d.key = some k) : v = kV k := by
  cases r <;> cases h <;> rfl
def dval (kvs : List (Key × D)) (k : Key) : Option D := (kvs.find? fun kv => decide (kv.1 = k)).map (·.2)
def dput (kvs : List (Key × D)) (k : Key) (d : D) : List (Key × D) := if (kvs.any fun kv => decide (kv.1 = k)) = true then kvs.map (fun kv => if kv.1 = k then (kv.1, d) else kv) else kvs ++ [(k, d)]
theorem dval_zip {F : Hp} {k : Key} : ∀ {kvs : List (Key × D)} {vs : List V}, Rps K ad F vs (kvs.map (·.2)) → (dval kvs k = none ∧ valV ((kvs.map (·.1)).zip vs) k = none) ∨ ∃ d v, dval kvs k = some d ∧ valV ((kvs.map (·.1)).zip vs) k = some v ∧ Rp K ad F v d
  | [], _, h => by cases h; exact .inl ⟨rfl, rfl⟩
  | (k0, d0) :: kvs, _, h => by
    rw [List.map_cons] at h
    cases h with
    | cons h t =>
      rename_i v vs
      by_cases e : k0 = k
      · refine .inr ⟨d0, v, ?_, ?_, h⟩
        · simp [dval, e]
        · simp [valV, e]
      · rcases dval_zip (k := k) t with ⟨a, b⟩ | ⟨d, v', a, b, r⟩
        · refine .inl ⟨?_, ?_⟩
          · simpa [dval, e] using a
          · simpa [valV, e] using b
        · refine .inr ⟨d, v', ?_, ?_, r⟩
          · simpa [dval, e] using a
          · simpa [valV, e] using b
theorem any_zip {k : Key} : ∀ {kvs : List (Key × D)} {vs : List V}, vs.length = kvs.length → (((kvs.map (·.1)).zip vs).any fun kv => decide (kv.1 = k)) = kvs.any fun kv => decide (kv.1 = k)
  | [], vs, _ => rfl
  | _ :: _, [], h => by cases h
  | (k0, d0) :: kvs, v :: vs, h => by
    show (decide (k0 = k) || (((kvs.map (·.1)).zip vs).any fun kv => decide (kv.1 = k))) = (decide (k0 = k) || _)
    rw [any_zip (kvs := kvs) (vs := vs) (by simpa using h)]
theorem map_zip {F : Hp} {k : Key} {v : V} {d : D} (r : Rp K ad F v d) : ∀ {kvs : List (Key × D)} {vs : List V}, Rps K ad F vs (kvs.map (·.2)) → ∃ vs', ((kvs.map (·.1)).zip vs).map (fun kv => if kv.1 = k then (kv.1, v) else kv) = ((kvs.map (fun kv => if kv.1 = k then (kv.1, d) else kv)).map (·.1)).zip vs' ∧ Rps K ad F vs' ((kvs.map (fun kv => if kv.1 = k then (kv.1, d) else kv)).map (·.2))
  | [], _, h => by cases h; exact ⟨[], rfl, .nil⟩
  | (k0, d0) :: kvs, _, h => by
    rw [List.map_cons] at h
    cases h with
    | cons h t =>
      rename_i v0 vs
      obtain ⟨vs', a, b⟩ := map_zip (k := k) r t
      by_cases e : k0 = k
      · refine ⟨v :: vs', ?_, ?_⟩
        · simp only [List.map_cons, List.zip_cons_cons, if_pos e]
          rw [← a]
        · simp only [List.map_cons, if_pos e]
          exact .cons r b
      · refine ⟨v0 :: vs', ?_, ?_⟩
        · simp only [List.map_cons, List.zip_cons_cons, if_neg e]
          rw [← a]
        · simp only [List.map_cons, if_neg e]
          exact .cons h b
theorem dput_zip {F : Hp} {k : Key} {v : V} {d : D} (r : Rp K ad F v d) {kvs : List (Key × D)} {vs : List V} (h : Rps K ad F vs (kvs.map (·.2))) : ∃ vs', putK ((kvs.map (·.1)).zip vs) k v = ((dput kvs k d).map (·.1)).zip vs' ∧ Rps K ad F vs' ((dput kvs k d).map (·.2)) := by
  have l : vs.length = kvs.length := by rw [h.len, List.length_map]
  unfold putK dput
  rw [any_zip l]
  split
  · exact map_zip r h
  · refine ⟨vs ++ [v], ?_, ?_⟩
    · rw [List.map_append, List.zip_append (by simp [l])]; rfl
    · rw [List.map_append]; exact h.snoc r
def isK (j : Nat) : Ev := fun ρ => match ρ[j]? with | some (.cel _ (.dK _)) => some (.ok (.d .non), ρ) | _ => none
def getK (j : Nat) (f : List (Key × D) → Option D) : Ev := fun ρ => match ρ[j]? with
  | some (.cel _ (.dK kvs)) => (f kvs).map fun d => (.ok (.d d), ρ)
  | _ => none
/-- d[k], d in slot j -/
def evDGet (j : Nat) (ke : Ev) : Ev := bnd (isK j) fun _ => bnd (dat ke) fun k => getK j fun kvs => k.key.bind (dval kvs)
/-- d.get(k, x) -/
def evDGet2 (j : Nat) (ke de : Ev) : Ev := bnd (isK j) fun _ => bnd (dat ke) fun k => bnd (dat de) fun d => getK j fun kvs => k.key.map fun k => (dval kvs k).getD d
/-- k in d -/
def evDIn (j : Nat) (ke : Ev) : Ev := bnd (dat ke) fun k => getK j fun kvs => k.key.map fun k => .bl (dval kvs k).isSome
/-- d[k] = e -/
def evDPut (j : Nat) (ke e : Ev) : M Fl := bnd (dat e) fun d => bnd (isK j) fun _ => bnd (dat ke) fun k => fun ρ => match ρ[j]? with
  | some (.cel c (.dK kvs)) => (match k.key with
    | some k => if kvs.length < 16777216 then some (.ok .nx, ρ.set j (.cel c (.dK (dput kvs k d)))) else none
    | none => none)
  | _ => none
theorem isK_eq {j : Nat} {r : Ex Rv} {ρ' : List Sl} (e : isK j ρ = some (r, ρ')) (S : Rel K ct fr F H σ ρ) : ∃ p kvs, r = .ok (.d .non) ∧ ρ' = ρ ∧ σ[j]? = some (some (.ref p)) ∧ H p = some (.dK kvs) := by
  unfold isK at e
  split at e
  · rename_i k kvs h
    cases e
    obtain ⟨o, g1, p, a1, a2, a3, a4, a5, vs, a6, a7⟩ := S.slot j _ h
    subst a1
    exact ⟨p, _, rfl, rfl, g1, a6⟩
  · cases e
theorem Tat.isK {δ γ : Type} {R' : Rel3 δ γ} {j : Nat} {k : Rv → M γ} {Q : δ → Hp → Prop} (h : Tat K ct R' W fr F ρ (PL.bnd (PL.isK j) k) σ Q) (S : Rel K ct fr F H σ ρ) :
    ∃ p kvs, σ[j]? = some (some (.ref p)) ∧ H p = some (.dK kvs) ∧ Tat K ct R' W fr F ρ (k (.d .non)) σ Q := by
  obtain ⟨r, ρ', e, q⟩ := h
  unfold PL.bnd at e
  cases em : PL.isK j ρ with
  | none => rw [em] at e; cases e
  | some x =>
    obtain ⟨r1, ρ1⟩ := x
    rw [em] at e
    obtain ⟨p, kvs, rfl, rfl, g1, g2⟩ := isK_eq em S
    exact ⟨p, kvs, g1, g2, r, ρ', e, q⟩
theorem Sat.isK {D : Ends} {j : Nat} {k : Rv → M Fl} (h : Sat K ct W D fr F ρ (PL.bnd (PL.isK j) k)) (S : Rel K ct fr F H σ ρ) :
    ∃ p kvs, σ[j]? = some (some (.ref p)) ∧ H p = some (.dK kvs) ∧ Sat K ct W D fr F ρ (k (.d .non)) := by
  obtain ⟨r, ρ', e, q⟩ := h
  unfold PL.bnd at e
  cases em : PL.isK j ρ with
  | none => rw [em] at e; cases e
  | some x =>
    obtain ⟨r1, ρ1⟩ := x
    rw [em] at e
    obtain ⟨p, kvs, rfl, rfl, g1, g2⟩ := isK_eq em S
    exact ⟨p, kvs, g1, g2, r, ρ', e, q⟩
theorem Tat.getK {j : Nat} {f : List (Key × D) → Option D} {Q : VK} (h : Tat K ct (RV K ct.ad) W fr F ρ (PL.getK j f) σ Q) (S : Rel K ct fr F H σ ρ) {p : Addr} (hp : σ[j]? = some (some (.ref p))) :
    ∃ kvs vs d, H p = some (.dK ((kvs.map (·.1)).zip vs)) ∧ Rps K ct.ad F vs (kvs.map (·.2)) ∧ f kvs = some d ∧ ∀ v, Rp K ct.ad F v d → Q v H := by
  obtain ⟨r, ρ', e, q⟩ := h
  unfold PL.getK at e
  split at e
  · rename_i k kvs h
    obtain ⟨d, e1, e2⟩ := map_some e
    cases e2
    obtain ⟨o, g1, p', a1, a2, a3, a4, a5, vs, a6, a7⟩ := S.slot j _ h
    subst a1
    rw [hp] at g1
    cases g1
    exact ⟨kvs, vs, d, a6, a7, e1, fun v r => q v F H (Same.refl _) S r⟩
  · cases e
section
variable {X : Cx} {x : Str} {p pos : Pos} {ke de : Expr} {fk fd : Ev}
theorem pp_dnew : PE X (.Dict [] [] pos) (TP K ct W (pur (.c (.dK [])))) := pe_dnewK.imp fun σ H Q ⟨fr, F, ρ, S, h⟩ => fun p hp => Tat.ok h _ F _ (Same.refl _) (S.newC hp) ⟨p, rfl, S.fresh hp ⟨[], upd_same, .nil⟩⟩
theorem pp_dget (j : Nat) (hu : X.A.units + 1 < cLine) (ho : PE X (.Name x p) (tVar j)) (hk : PE X ke (TP K ct W fk)) (hs : NoSl ke) : PE X (.Subscript (.Name x p) ke pos) (TP K ct W (evDGet j fk)) := (pe_dget hu ho hk hs).imp fun σ H Q ⟨fr, F, ρ, S, h⟩ => by
  obtain ⟨p, kvs0, h1, h2, h⟩ := Tat.isK h S
  refine ⟨_, h1, ?_⟩
  refine Tat.dat h S fun F1 H1 ρ1 y dk s1 S1 r1 h => ?_
  obtain ⟨kvs, vs, d, g1, g2, g3, q⟩ := Tat.getK h S1 h1
  cases ek : dk.key with
  | none => rw [ek] at g3; cases g3
  | some k =>
    rw [ek] at g3
    have g3 : dval kvs k = some d := g3
    rcases dval_zip (k := k) g2 with ⟨a, _⟩ | ⟨d', v, a, b, r⟩
    · rw [g3] at a; cases a
    · rw [g3] at a
      cases a
      refine ⟨p, v, rfl, ?_, q v r⟩
      rw [r1.key ek, ← b]
      exact DGet.k g1
theorem pp_dget2 {apos cpos : Pos} (j : Nat) (hu : X.A.units + 1 < cLine) (ho : PE X (.Name x p) (tVar j)) (hk : PE X ke (TP K ct W fk)) (hd : PE X de (TP K ct W fd)) (m : M2 X (.Name x p) "get" apos ke de cpos) : PE X (.Call (.Attribute (.Name x p) "get" apos) [ke, de] [] cpos) (TP K ct W (evDGet2 j fk fd)) := (L2.pe_dget2 hu ho hk hd m).imp fun σ H Q ⟨fr, F, ρ, S, h⟩ => by
  obtain ⟨p, kvs0, h1, h2, h⟩ := Tat.isK h S
  refine ⟨_, h1, p, rfl, .inl ⟨kvs0, .inl h2⟩, ?_⟩
  refine Tat.dat h S fun F1 H1 ρ1 y dk s1 S1 r1 h => ?_
  refine Tat.dat h S1 fun F2 H2 ρ2 z dz s2 S2 r2 h => ?_
  obtain ⟨kvs, vs, d, g1, g2, g3, q⟩ := Tat.getK h S2 h1
  obtain ⟨k, ek, e⟩ := map_some g3
  rcases dval_zip (k := k) g2 with ⟨a, b⟩ | ⟨d', v, a, b, r⟩
  · rw [a] at e
    subst e
    refine ⟨none, ?_, q z r2⟩
    rw [r1.key ek, ← b]
    exact DGet.k g1
  · rw [a] at e
    subst e
    refine ⟨some v, ?_, q v r⟩
    rw [r1.key ek, ← b]
    exact DGet.k g1
theorem s_dput {e : Expr} {fe : Ev} {pos' : Pos} (j : Nat) (hu : X.A.units + 1 < cLine) (ho : PE X (.Name x p) (tVar j)) (hk : PE X ke (TP K ct W fk)) (he : PE X e (TP K ct W fe)) (hs : swapsWith e (some (.Subscript (.Name x p) ke pos')) pos.line X.env = pure false := by rfl) :
    PS X (.Assign [.Subscript (.Name x p) ke pos'] e pos) (TSt K ct W (evDPut j fk fe)) := (ps_dput hu ho hk he hs).imp fun D σ H ⟨fr, F, ρ, S, h⟩ => by
  refine h.dat S fun F1 H1 ρ1 v d s1 S1 r1 h => ?_
  obtain ⟨p, kvs0, h1, h2, h⟩ := Sat.isK h S1
  refine ⟨_, h1, ?_⟩
  refine h.dat S1 fun F2 H2 ρ2 y dk s2 S2 r2 h => ?_
  obtain ⟨r0, ρ', e, q⟩ := h
  dsimp only at e
  cases e2 : ρ2[j]? with
  | none => rw [e2] at e; cases e
  | some sl =>
    rw [e2] at e
    cases sl with
    | cel c cc =>
      cases cc with
      | dK kvs =>
        dsimp only at e
        cases ek : dk.key with
        | none => rw [ek] at e; cases e
        | some k =>
          rw [ek] at e
          dsimp only at e
          split at e
          · rename_i sz
            cases e
            obtain ⟨o, g1, p', a1, a2, a3, a4, a5, vs, a6, a7⟩ := S2.slot j _ e2
            subst a1
            rw [h1] at g1
            cases g1
            obtain ⟨vs', b1, b2⟩ := dput_zip (k := k) (r1.mono s2) a7
            have l : vs.length = kvs.length := by rw [a7.len, List.length_map]
            refine ⟨p, _, rfl, ?_, q σ F2 _ (Same.refl _) (S2.updC (o := .dK (putK ((kvs.map (·.1)).zip vs) k v)) e2 h1 rfl ⟨vs', by rw [upd_same, b1], b2⟩)⟩
            rw [r2.key ek]
            exact DPut.k a6 (by rw [List.length_zip, List.length_map, l, Nat.min_self]; exact sz)
          · cases e
      | _ => cases e
    | _ => cases e
/-- sorted(d, reverse=True), the keys ints -/
def keysI : List (Key × D) → Option (List Int)
  | [] => some []
  | (.inl i, _) :: r => (keysI r).map (i :: ·)
  | _ => none
theorem keysI_map : ∀ {kvs : List (Key × D)} {ks : List Int}, keysI kvs = some ks → kvs.map (·.1) = ks.map Sum.inl
  | [], _, h => by cases h; rfl
  | (.inl i, d) :: r, _, h => by
    have h : (keysI r).map (i :: ·) = some _ := h
    obtain ⟨ks, e1, e2⟩ := map_some h
    subst e2
    rw [List.map_cons, List.map_cons, keysI_map e1]
  | (.inr _, d) :: r, _, h => by cases h
def insG (x : Int) : List Int → List Int
  | [] => [x]
  | y :: r => if y ≤ x then x :: y :: r else y :: insG x r
/-- from the greatest down -/
def down : List Int → List Int
  | [] => []
  | x :: r => insG x (down r)
theorem insG_perm (x : Int) : ∀ r : List Int, (insG x r).Perm (x :: r)
  | [] => .refl _
  | y :: r => by
    unfold insG
    split
    · exact .refl _
    · exact ((insG_perm x r).cons y).trans (.swap x y r)
theorem down_perm : ∀ r : List Int, (down r).Perm r
  | [] => .refl _
  | x :: r => (insG_perm x (down r)).trans ((down_perm r).cons x)
theorem insG_srt (x : Int) : ∀ {r : List Int}, r.Pairwise (· ≥ ·) → (insG x r).Pairwise (· ≥ ·)
  | [], _ => List.pairwise_singleton _ _
  | y :: r, h => by
    unfold insG
    (obtain ⟨h1, h2⟩ := List.pairwise_cons.mp h)
    split
    · rename_i e
      refine List.pairwise_cons.mpr ⟨fun z hz => ?_, h⟩
      (rcases List.mem_cons.mp hz with rfl | hz)
      · exact e
      · have := h1 z hz; show z ≤ x; have : z ≤ y := this; omega
    · rename_i e
      refine List.pairwise_cons.mpr ⟨fun z hz => ?_, insG_srt x h2⟩
      rcases List.mem_cons.mp ((insG_perm x r).mem_iff.mp hz) with rfl | hz
      · show z ≤ y; omega
      · exact h1 z hz
theorem down_srt : ∀ r : List Int, (down r).Pairwise (· ≥ ·)
  | [] => .nil
  | x :: r => insG_srt x (down_srt r)
theorem srt_one : ∀ {xs ys : List Int}, xs.Perm ys → xs.Pairwise (· ≥ ·) → ys.Pairwise (· ≥ ·) → xs = ys
  | [], ys, p, _, _ => (List.Perm.nil_eq p)
  | x :: xs, [], p, _, _ => by have := p.length_eq; cases this
  | x :: xs, y :: ys, p, h, k => by
    (obtain ⟨h1, h2⟩ := List.pairwise_cons.mp h)
    obtain ⟨k1, k2⟩ := List.pairwise_cons.mp k
    have a : x ≤ y := by
      rcases List.mem_cons.mp (p.mem_iff.mp List.mem_cons_self) with rfl | z
      · exact Int.le_refl _
      · exact k1 x z
    have b : y ≤ x := by
      rcases List.mem_cons.mp (p.mem_iff.mpr List.mem_cons_self) with rfl | z
      · exact Int.le_refl _
      · exact h1 y z
    have e : x = y := Int.le_antisymm a b
    subst e
    rw [srt_one (List.Perm.cons_inv p) h2 k2]
def evSortDR (j : Nat) : Ev := fun ρ => match ρ[j]? with
  | some (.cel _ (.dK kvs)) => (keysI kvs).map fun ks => (.ok (.c (.lst ((down ks).map D.int))), ρ)
  | _ => none
theorem Rps.ofInts {F : Hp} : ∀ ns : List Int, Rps K ad F (ns.map V.int) (ns.map D.int)
  | [] => .nil
  | n :: ns => .cons (.int n) (Rps.ofInts ns)
theorem pp_sortDR {q p2 pos : Pos} {kk : Nat} {nm : Option Str} {kp : Pos} (j : Nat) (hc : X.calm = true) (hg : Gl X "sorted") (hm : X.mg "sorted" = none) (ho : PE X (.Name x p2) (tVar j))
    (he : backTo pos (starEach [.Name x p2] X.env) = (false, eval (.Name x p2) X.env) :: backTo pos (starEach [] X.env) := by rfl) (hpl : (backTo pos (starEach [.Name x p2] X.env)).any (·.1) = false := by rfl)
    (hst : starEach [.Name x p2] X.env = (false, eval (.Name x p2) X.env) :: starEach [] X.env := by rfl)
    (hall : (backToKw pos (keywordEach [⟨nm, .Constant (.bool true) kk q, kp⟩] X.env)).all (·.1.isSome) = true := by rfl) (hnone : (backToKw pos (keywordEach [⟨nm, .Constant (.bool true) kk q, kp⟩] X.env)).any (·.1.isNone) = false := by rfl) (hks : (backToKw pos (keywordEach [⟨nm, .Constant (.bool true) kk q, kp⟩] X.env)).filterMap (·.1) = [("reverse" : Str)] := by rfl) :
    PE X (.Call (.Name "sorted" p) [.Name x p2] [⟨nm, .Constant (.bool true) kk q, kp⟩] pos) (TP K ct W (evSortDR j)) :=
  (pe_callBK (x := "sorted") (OW.c_sortDR hc) hg hm (by decide +kernel) (pa_cons ho pa_nil hst) (pk_cons pe_bl pk_nil) (by decide) (by decide) he hpl hall hnone hks).imp fun σ H Q ⟨fr, F, ρ, S, r, ρ', e, q⟩ => by
  unfold evSortDR at e
  split at e
  · rename_i k kvs h
    obtain ⟨ks, e1, e2⟩ := map_some e
    cases e2
    obtain ⟨o, g1, p', a1, a2, a3, a4, a5, vs, a6, a7⟩ := S.slot j _ h
    subst a1
    have l : vs.length = kvs.length := by rw [a7.len, List.length_map]
    refine ⟨_, g1, p', _, ks, rfl, rfl, .inl a6, ?_, fun ys p hp hs hn => ?_⟩
    · rw [← keysI_map e1, List.map_fst_zip (by simp [l])]
    · have : ys = down ks := srt_one (hp.trans (down_perm ks).symm) hs (down_srt ks)
      subst this
      exact q _ F _ (Same.refl _) (S.newC hn) ⟨p, rfl, S.fresh hn ⟨_, upd_same, Rps.ofInts _⟩⟩
  · cases e
end
/-! ### max(.., default=n) -/
def gMaxD (n : Int) : List D → Option D | [d] => (lints d).map fun ns => .int (OW.maxL n ns) | _ => none
def evMaxD (es : List DE) (de : Ev) : Ev := bnd (evDs es) fun ds => bnd (dat de) fun d => match d with | .int n => opt ((gMaxD n ds).map Rv.d) | _ => fai
theorem pp_maxD {X : Cx} {e de : Expr} {es : List DE} {fd : Ev} {p pos kp : Pos} {nm : Option Str} (hc : X.calm = true) (hu : X.A.units + 64 < cLine) (eK : X.K = K) (hg : Gl X "max") (hm : X.mg "max" = none) (ha : PA X [e] (TD K ct W (evDs es))) (hd : PE X de (TP K ct W fd))
    (he : backTo pos (starEach [e] X.env) = (false, eval e X.env) :: backTo pos (starEach [] X.env) := by rfl) (hpl : (backTo pos (starEach [e] X.env)).any (·.1) = false := by rfl)
    (hall : (backToKw pos (keywordEach [⟨nm, de, kp⟩] X.env)).all (·.1.isSome) = true := by rfl) (hnone : (backToKw pos (keywordEach [⟨nm, de, kp⟩] X.env)).any (·.1.isNone) = false := by rfl) (hks : (backToKw pos (keywordEach [⟨nm, de, kp⟩] X.env)).filterMap (·.1) = [("default" : Str)] := by rfl) :
    PE X (.Call (.Name "max" p) [e] [⟨nm, de, kp⟩] pos) (TP K ct W (evMaxD es fd)) := by
  subst eK
  refine (pe_callBK (x := "max") (OW.c_maxD hc hu) hg hm (by decide +kernel) ha (pk_cons hd pk_nil) (by decide) (by decide) he hpl hall hnone hks).imp fun σ H Q ⟨fr, F, ρ, S, h⟩ => ?_
  refine Tat.bnd h S fun F1 H1 ρ1 vs ds s1 S1 r1 h => ?_
  refine Tat.dat h S1 fun F2 H2 ρ2 v d s2 S2 r2 h => ?_
  cases d with
  | int n =>
    cases r2
    obtain ⟨r, e, q⟩ := h.opt
    obtain ⟨z, e1, e2⟩ := map_some e
    subst e2
    unfold gMaxD at e1
    split at e1
    · rename_i d
      obtain ⟨ns, g1, g2⟩ := map_some e1
      subst g2
      obtain ⟨u, rfl, ru⟩ := one_i r1
      obtain ⟨xs, k1, k2⟩ := lints_i g1
      obtain ⟨a, rfl, hs⟩ := (ru.mono s2).lints S2.fh k1 k2
      exact ⟨a, ns, n, rfl, rfl, hs, q _ F2 H2 (Same.refl _) S2 (Rp.int _)⟩
    · cases e1
  | _ => obtain ⟨_, _, e, _⟩ := h; cases e
end PL
namespace PL
open PySem PySem.Spec PyProof.Rows L2
theorem fn_none {P : Program} {w : World} {K : PySem.W.Frag} {ad : Cl → Addr} {mg : Str → Option Value} {base : Heap} {CX : CXT} {k n : Nat} {f : Addr} {fd : FuncData} {ps : List Str} : FnOk P w K mg base CX k f fd ps (spP K ad n fun _ => none) :=
  have z : ∀ {vs : List V} {H : Hp} {Q : VK} {E : XK}, ¬ spP K ad n (fun _ => none) vs H Q E := fun {vs H Q E} ⟨_, _, _, _, _, _, _, _, _, e, _⟩ => by cases e
  ⟨fun _ _ _ _ h => (z h).elim, fun _ _ _ _ _ _ _ _ _ _ _ _ _ h => (z h).elim⟩
end PL
end
section
namespace PL
open PySem PySem.Spec PyProof.Rows L2
variable {K : PySem.W.Frag} {ad : Cl → Addr} {ct : CT}
variable {fr : Fr} {F F' H H' : Hp} {σ : L2.St} {ρ : List Sl} {W : WX}
/-! ### x in y -/
def dInB : D → D → Option Bool
  | .int i, e => (e.items.bind D.ints).map fun ns => ns.contains i
  | .str s, .str z => match s.cps.toList with | [c] => some (decide (c ∈ z.cps.toList)) | _ => none
  | .str s, e => (e.items.bind D.strs).map fun ys => ys.contains s
  | _, _ => none
def dIn (d e : D) : Option D := (dInB d e).map .bl
def dNotIn (d e : D) : Option D := (dInB d e).map fun b => .bl (!b)
def rSign (neg : Bool) : R2 := fun x y H Q => ∃ (c : Nat) (z : Str), x = .str ⟨#[c]⟩ ∧ y = .str z ∧ Q (.bl (if neg then !decide (c ∈ z.cps.toList) else decide (c ∈ z.cps.toList))) H
def rInB (K : PySem.W.Frag) (neg : Bool) : R2 := fun x y H Q => rIn K neg x y H Q ∨ rSign neg x y H Q
theorem op_inB {X : Cx} (eK : X.K = K) : OpR X (compareOp .In) (rInB K false) := by
  subst eK
  exact fun pins s σ H x y v u Q I rx ry h => h.elim (op_in_seq pins s σ H x y v u Q I rx ry) (op_in_sign pins s σ H x y v u Q I rx ry)
theorem inV_ints (i : Int) : ∀ ns : List Int, inV (.int i) (ns.map V.int) = ns.contains i
  | [] => rfl
  | n :: ns => by
    rw [List.contains_cons, ← inV_ints i ns]
    show (eqV (.int n) (.int i) || _) = _
    congr 1
    show decide (n = i) = _
    by_cases e : n = i
    · simp [e]
    · simp [e, Ne.symm e]
theorem inV_strs (s : Str) : ∀ ns : List Str, inV (.str s) (ns.map V.str) = ns.contains s
  | [] => rfl
  | n :: ns => by
    rw [List.contains_cons, ← inV_strs s ns]
    show (eqV (.str n) (.str s) || _) = _
    congr 1
    show decide (n = s) = _
    by_cases e : n = s
    · simp [e]
    · simp [e, Ne.symm e]
theorem in_cases {F H : Hp} {x y : V} {d e : D} {b : Bool} {neg : Bool} {Q : VK} (s : Same F H) (r1 : Rp K ct.ad F x d) (r2 : Rp K ct.ad F y e) (h : dInB d e = some b) (q : Q (.bl (if neg then !b else b)) H) : rInB K neg x y H Q := by
  have go : ∀ {xs : List D}, e.items = some xs → ∃ p vs, y = .ref p ∧ (SqL K H p vs ∨ SqT K H p vs) ∧ Rps K ct.ad F vs xs := fun {xs} z => r2.seq s z
  cases d with
  | int i =>
    cases r1
    obtain ⟨ns, e1, e2⟩ := map_some (show (e.items.bind D.ints).map (fun ns => ns.contains i) = some b from h)
    cases ei : e.items with
    | none => rw [ei] at e1; cases e1
    | some xs =>
      rw [ei] at e1
      obtain ⟨p, vs, rfl, hs, k⟩ := go ei
      have := D.ints_eq (show D.ints xs = some ns from e1)
      subst this
      have := k.ints
      subst this
      refine .inl ⟨p, _, rfl, hs, rfl, by simp [flatV], ?_⟩
      rw [inV_ints, e2]
      exact q
  | str t =>
    cases r1
    cases e with
    | str z =>
      cases r2
      have h : (match t.cps.toList with | [c] => some (decide (c ∈ z.cps.toList)) | _ => none) = some b := h
      split at h
      · rename_i c hc
        cases h
        refine .inr ⟨c, z, ?_, rfl, q⟩
        have : t.cps = #[c] := Array.toList_inj.mp hc
        cases t
        simp only at this
        subst this
        rfl
      · cases h
    | tup xs =>
      obtain ⟨ns, e1, e2⟩ := map_some (show ((some xs).bind D.strs).map (fun ys => ys.contains t) = some b from h)
      obtain ⟨p, vs, rfl, hs, k⟩ := go rfl
      have := D.strs_eq (show D.strs xs = some ns from e1)
      subst this
      have := k.strs
      subst this
      refine .inl ⟨p, _, rfl, hs, rfl, by simp [flatV], ?_⟩
      rw [inV_strs, e2]
      exact q
    | lst xs =>
      obtain ⟨ns, e1, e2⟩ := map_some (show ((some xs).bind D.strs).map (fun ys => ys.contains t) = some b from h)
      obtain ⟨p, vs, rfl, hs, k⟩ := go rfl
      have := D.strs_eq (show D.strs xs = some ns from e1)
      subst this
      have := k.strs
      subst this
      refine .inl ⟨p, _, rfl, hs, rfl, by simp [flatV], ?_⟩
      rw [inV_strs, e2]
      exact q
    | sq xs =>
      obtain ⟨ns, e1, e2⟩ := map_some (show ((some xs).bind D.strs).map (fun ys => ys.contains t) = some b from h)
      obtain ⟨p, vs, rfl, hs, k⟩ := go rfl
      have := D.strs_eq (show D.strs xs = some ns from e1)
      subst this
      have := k.strs
      subst this
      refine .inl ⟨p, _, rfl, hs, rfl, by simp [flatV], ?_⟩
      rw [inV_strs, e2]
      exact q
    | _ => cases h
  | _ => cases h
theorem o_in : O2 K ct.ad (rInB K false) dIn := by
  intro F H x y d e z Q s r1 r2 h q
  obtain ⟨b, e1, rfl⟩ := map_some h
  exact in_cases (ct := ct) s r1 r2 e1 (q _ (Rp.bl _))
end PL
namespace PL
open PySem PySem.Spec PyProof.Rows L2
/-- what the top asks of the law's def -/
def spLaw (K : PySem.W.Frag) : Sp := fun vs H Q _ => ∃ (a : Addr) (ns : List Int), vs = [.ref a] ∧ SqL K H a (ns.map V.int) ∧ ns.length ≤ 63 ∧ ∀ H', Q (.bl true) H'
theorem spLaw_of {K : PySem.W.Frag} {ad : Cl → Addr} {G : Fn} (h : ∀ ns : List Int, ns.length ≤ 63 → ∃ ρ, G [.dat (.sq (ns.map D.int))] = some (.ok (.d (.bl true)), ρ)) : ∀ vs H Q E, spLaw K vs H Q E → spP K ad 1 G vs H Q E := by
  rintro vs H Q E ⟨a, ns, rfl, hs, hl, q⟩
  obtain ⟨ρ, e⟩ := h ns hl
  have S : Rel K (cx ad) ⟨H, H, fun _ => none⟩ H H ([V.ref a].map some) [.dat (.sq (ns.map D.int))] := by
    refine ⟨rfl, Same.refl _, fun i s z => ?_, fun i j k c k' c' p z => ?_, Same.refl _, fun b _ z => z, fun i p z => by cases z⟩
    · cases i with
      | zero =>
        cases z
        exact ⟨_, rfl, _, rfl, .sq hs (Rps.ofInts ns)⟩
      | succ i => simp at z
    · cases i with
      | zero => cases z
      | succ i => simp at z
  refine ⟨rfl, _, H, _, S, fun _ _ => rfl, rfl, _, ρ, e, fun v F' H' s S' r => ?_⟩
  cases r
  exact q H'
end PL
end
section
namespace PL
open PySem PySem.Spec PyProof.Rows L2
variable {K : PySem.W.Frag} {ad : Cl → Addr} {ct : CT}
variable {fr : Fr} {F F' H H' : Hp} {σ : L2.St} {ρ : List Sl} {W : WX}
/-! ### a new cell handed straight to a def -/
/-- the frame that holds fast what stands at p -/
def Fr.hold (fr : Fr) (p : Addr) (o : HO) : Fr := { P := fun b => if b = p then some o else fr.P b, F0 := fun b => if b = p then none else fr.F0 b, pa := fr.pa }
theorem SlR.refr {fr fr' : Fr} {i : Nat} {o : Option V} {s : Sl} (h : SlR K ct fr F H i o s) (ep : fr'.pa = fr.pa) (eP : ∀ p, o = some (.ref p) → (∃ k c, s = .cel k c) → fr.P p = none → fr'.P p = none) : SlR K ct fr' F H i o s := by
  cases s with
  | un => exact h
  | dat d => exact h
  | cel k c =>
    obtain ⟨p, e, h1, h2, h3, h4, h5⟩ := h
    exact ⟨p, e, h1, eP p e ⟨k, c, rfl⟩ h2, by rw [ep]; exact h3, by rw [ep]; exact h4, h5⟩
  | exn c pl => exact h
theorem Rel.hold {p : Addr} {c : CC} {o : HO} (S : Rel K ct fr F H σ ρ) (f : Fresh K ct.ad fr F H σ ρ p c) (ho : H p = some o) : Rel K ct (fr.hold p o) F H σ ρ := by
  obtain ⟨f1, f2, f3, f4, f5⟩ := f
  refine ⟨S.len, S.fh, fun i s e => ?_, S.dis, fun b x e => ?_, fun b hb h0 => ?_, S.pcs⟩
  · obtain ⟨u, e1, r⟩ := S.slot i s e
    refine ⟨u, e1, SlR.refr r rfl fun q eq ⟨k, c', es⟩ hq => ?_⟩
    subst es
    have ne : q ≠ p := fun z => f5 i k c' e (by rw [e1, eq, z])
    show (if q = p then some o else fr.P q) = none
    rw [if_neg ne]; exact hq
  · have e : (if b = p then some o else fr.P b) = some x := e
    by_cases z : b = p
    · rw [if_pos z] at e; cases e; rw [z]; exact ho
    · rw [if_neg z] at e; exact S.keep b x e
  · by_cases z : b = p
    · rw [z]; exact f1
    · refine S.fro b (fun y => hb ?_) ?_
      · show (if b = p then some o else fr.P b) = none
        rw [if_neg z]; exact y
      · have h0 : (if b = p then none else fr.F0 b) = none := h0
        rw [if_neg z] at h0; exact h0
theorem Rel.unhold {p : Addr} {o : HO} (S : Rel K ct (fr.hold p o) F H σ ρ) (hp : fr.P p = none) : Rel K ct fr F H σ ρ := by
  refine ⟨S.len, S.fh, fun i s e => ?_, S.dis, fun b x e => ?_, fun b hb h0 => ?_, S.pcs⟩
  · obtain ⟨u, e1, r⟩ := S.slot i s e
    refine ⟨u, e1, SlR.refr r rfl fun q eq ⟨k, c', es⟩ hq => ?_⟩
    have hq : (if q = p then some o else fr.P q) = none := hq
    by_cases z : q = p
    · rw [if_pos z] at hq; cases hq
    · rw [if_neg z] at hq; exact hq
  · have z : b ≠ p := fun z => by rw [z, hp] at e; cases e
    refine S.keep b x ?_
    show (if b = p then some o else fr.P b) = some x
    rw [if_neg z]; exact e
  · have z : b ≠ p := fun z => hb (by rw [z]; exact hp)
    refine S.fro b (fun y => hb ?_) ?_
    · have y : (if b = p then some o else fr.P b) = none := y
      rw [if_neg z] at y; exact y
    · show (if b = p then none else fr.F0 b) = none
      rw [if_neg z]; exact h0
theorem Rel.heldF {p : Addr} {c : CC} {o : HO} {F0 H0 : Hp} {σ0 : L2.St} {ρ0 : List Sl} (S : Rel K ct (fr.hold p o) F H σ ρ) (f : Fresh K ct.ad fr F0 H0 σ0 ρ0 p c) (ho : H0 p = some o) (s : Same F0 F) : Fresh K ct.ad fr F H σ ρ p c := by
  obtain ⟨f1, f2, f3, f4, f5⟩ := f
  have at_p : (fr.hold p o).P p = some o := if_pos rfl
  refine ⟨S.fro p (by rw [at_p]; simp) (if_pos rfl), f2, f3, f4.keep s (by rw [ho]; exact S.keep p o at_p), fun i k c' e z => ?_⟩
  obtain ⟨u, e1, r⟩ := S.slot i _ e
  obtain ⟨q, eq, _, h2, _⟩ := r
  rw [e1, eq] at z
  injection z with z; injection z with z; injection z with z
  rw [z, at_p] at h2; cases h2
theorem Fresh.pop {p q : Addr} {c : CC} (h : Fresh K ct.ad fr F H (σ ++ [some (.ref q)]) ρ p c) : Fresh K ct.ad fr F H σ (ρ.take σ.length) p c := by
  obtain ⟨f1, f2, f3, f4, f5⟩ := h
  refine ⟨f1, f2, f3, f4, fun i k c' e z => ?_⟩
  rw [List.getElem?_take] at e
  split at e
  · rename_i l
    exact f5 i k c' e (by rw [List.getElem?_append_left l]; exact z)
  · cases e
/-- .. the call itself: the cell stands behind the slots while it runs -/
def callN (n : Nat) (G : Fn) (c : CC) (ar : List Ar) : Ev := fun ρ => match callG n G (.c ρ.length :: ar) (ρ ++ [.cel .own c]) with
  | some (r, ρ1) => some (r, ρ1.take ρ.length)
  | none => none
def evCallN (n : Nat) (G : Fn) (m : Ev) (as : List AE) (ds : List D := []) : Ev := bnd m fun r => match r with
  | .c c => bnd (evAs as) fun ar => callN n G c (ar ++ ds.map .d)
  | .d _ => fai
def evCallN0 (n : Nat) (G : Fn) (m : Ev) (as : List AE) (ds : List D := []) : Ev := bnd m fun r => match r with
  | .c c => bnd (evAs as) fun ar => noEr (callN n G c (ar ++ ds.map .d))
  | .d _ => fai
theorem Tat.callN {n : Nat} {G : Fn} {p : Addr} {c : CC} {vs : List V} {ar : List Ar} {Q : VK} {E : XK} (h : Tat K ct (RV K ct.ad) W fr F ρ (PL.callN n G c ar) σ Q) (S : Rel K ct fr F H σ ρ) (f : Fresh K ct.ad fr F H σ ρ p c) (r : RAs K ct.ad F σ vs ar) (hE : ∀ cls d H', W cls d σ H' → E cls d H') : spP K ct.ad n G (.ref p :: vs) H Q E := by
  have S1 := S.push f
  have l := S.len
  have np : fr.pa σ.length = none := by
    cases z : fr.pa σ.length with
    | none => rfl
    | some q =>
      obtain ⟨k1, c1, h1, h2⟩ := S.pcs _ q z
      have := (List.getElem?_eq_some_iff.mp h1).1
      omega
  have last : (σ ++ [some (V.ref p)])[ρ.length]? = some (some (V.ref p)) := by rw [← l]; simp
  refine Tat.call (W := fun cls d _ H' => W cls d σ H') (ar := .c ρ.length :: ar) (fr := fr) (F := F) (ρ := ρ ++ [.cel .own c]) (σ := σ ++ [some (.ref p)]) ?_ S1 (RAs.cons (show RA1 K ct.ad F (σ ++ [some (V.ref p)]) (.ref p) (.c ρ.length) from last) (RAs.push (o := some (V.ref p)) r)) hE
  obtain ⟨r0, ρ0, e, q⟩ := h
  unfold PL.callN at e
  cases ec : callG n G (.c ρ.length :: ar) (ρ ++ [.cel .own c]) with
  | none => rw [ec] at e; cases e
  | some y =>
    obtain ⟨ry, ρ1⟩ := y
    rw [ec] at e
    cases e
    refine ⟨r0, ρ1, ec, ?_⟩
    rw [← l] at q
    cases r0 with
    | er c' pl => exact fun d F' H' s' S' pr => q d F' H' s' (S'.pop np) pr
    | ok rv => exact fun v F' H' s' S' rr => q v F' H' s' (S'.pop np) (by
        cases rv with
        | d d => exact rr
        | c c' => obtain ⟨x, ex, fx⟩ := rr; exact ⟨x, ex, fx.pop⟩)
/-- the other arguments, while the cell is held fast -/
theorem Tat.held {β : Type} {R' : Rel3 β Rv} {p : Addr} {c : CC} {as : List AE} {k : List Ar → Ev} {Q : β → Hp → Prop} {Q1 : List V → Hp → Prop} (h : Tat K ct R' W fr F ρ (PL.bnd (evAs as) k) σ Q) (S : Rel K ct fr F H σ ρ) (f : Fresh K ct.ad fr F H σ ρ p c)
    (hq : ∀ F1 H1 ρ1 vs ar, Same F F1 → Rel K ct fr F1 H1 σ ρ1 → Fresh K ct.ad fr F1 H1 σ ρ1 p c → RAs K ct.ad F1 σ vs ar → Tat K ct R' W fr F1 ρ1 (k ar) σ Q → Q1 vs H1) : TAr K ct W (evAs as) σ H Q1 := by
  obtain ⟨o, ho⟩ := f.2.2.2.1.at
  have hp := f.2.1
  refine ⟨fr.hold p o, F, ρ, S.hold f ho, ?_⟩
  obtain ⟨r, ρ', e, q⟩ := h
  unfold PL.bnd at e
  cases em : evAs as ρ with
  | none => rw [em] at e; cases e
  | some x =>
    obtain ⟨r1, ρ1⟩ := x
    rw [em] at e
    refine ⟨r1, ρ1, em, ?_⟩
    cases r1 with
    | er c' pl =>
      cases e
      exact fun d F1 H1 s1 S1 pr => q d F1 H1 s1 (S1.unhold hp) pr
    | ok ar =>
      intro vs F1 H1 s1 S1 rr
      refine hq F1 H1 ρ1 vs ar s1 (S1.unhold hp) (S1.heldF f ho s1) rr ⟨r, ρ', e, ?_⟩
      cases r with
      | ok a => exact fun v F2 H2 s2 S2 rr => q v F2 H2 (s1.trans s2) S2 rr
      | er c' pl => exact fun d F2 H2 s2 S2 rr => q d F2 H2 (s1.trans s2) S2 rr
section
variable {X : Cx} {CX : CXT} {k : Nat} {f : Addr} {fd : FuncData} {ps : List Str} {x : Str} {p pos : Pos} {e : Expr} {es : List Expr} {n : Nat} {G : Fn} {m : Ev} {as : List AE} {dvs : List V} {dds : List D} {ds : List Value}
theorem pp_callN (Fn : FnOk X.prog X.w X.K X.mg X.base CX k f fd ps (spP K ct.ad n G)) (hr : Room k X.A) (hg : Gl X x) (hm : X.mg x = some (.ref f)) (hk : PySem.W.keepIn X.K (.ref f) = true) (hb : Binds X.K fd ps ds) (hd : Vals dvs ds) (hx : Passes CX X E0)
    (h1 : PE X e (TP K ct W m)) (ha : PA X es (TAr K ct W (evAs as))) (hdf : Dfs dvs dds) (hdb : (x == ("__debug__" : Str)) = false := by decide) (he : starEach (e :: es) X.env = (false, eval e X.env) :: starEach es X.env := by rfl) (hpl : (backTo pos (starEach es X.env)).any (·.1) = false := by rfl) :
    PE X (.Call (.Name x p) (e :: es) [] pos) (TP K ct W (evCallN0 n G m as dds)) := (pe_call Fn hr hg hm hk hb hd hx (pa_cons h1 ha he) hdb he hpl).imp fun σ H Q h => by
  obtain ⟨fr, F, ρ, S, h⟩ := h
  refine Tat.bnd h S fun F1 H1 ρ1 v r s1 S1 r1 h => ?_
  cases r with
  | d d => obtain ⟨_, _, e, _⟩ := h; cases e
  | c c =>
    obtain ⟨q, rfl, fq⟩ := r1
    refine Tat.held h S1 fq fun F2 H2 ρ2 vs ar s2 S2 f2 r2 h => ?_
    exact Tat.callN (W := fun _ _ _ _ => False) h.noEr S2 f2 (RAs.dfs hdf r2) fun _ _ _ z => z
end
end PL
end
section
namespace PL
open PySem PySem.Spec PyProof.Rows L2
variable {K : PySem.W.Frag} {ad : Cl → Addr} {ct : CT}
variable {fr : Fr} {F F' H H' : Hp} {σ : L2.St} {ρ : List Sl} {W : WX}
/-! ### methods of a class -/
/-- C.m is the plain def at g -/
structure SMet (K : PySem.W.Frag) (C : Addr) (mc : Value) (m : Str) (p g : Addr) : Prop where
  fnd : PySem.W.findCls K (.ref C) mc m = some (.get (.builtin "staticmethod.__get__") (.ref p) .none (.ref C))
  wraps : ∃ rest, PySem.W.recIn K p "staticmethod" = some (.ref g :: rest)
def evCallC (n : Nat) (G : Fn) (c : Cl) (as : List AE) : Ev := bnd (evAs as) fun ar => noEr (callG n G (.d (.cl c) :: ar))
section
variable {X : Cx} {CX : CXT} {k : Nat} {f : Addr} {fd : FuncData} {ps : List Str} {x m : Str} {p pos apos : Pos} {e o : Expr} {es : List Expr} {n : Nat} {G : Fn} {as : List AE} {dvs : List V} {dds : List D} {ds : List Value} {q : Addr} {mc : Value} {sp : Sp}
theorem sm_here {pins : List (Addr × Obj)} {s : Shared} {A : Around} {C : Addr} {E : Value → Shared → Prop} {pl : Sem Bool} {Q : Value × List Value → Shared → Prop} (I : Inv X pins σ H s) (r : ClX.CRead X.K C mc) (c : SMet X.K C mc m q f)
    (h : ∀ s1, Inv X pins σ H s1 → Q (.ref f, []) s1) : wpAny (model X.prog X.w) A (getMethod (.ref C) m pl) Q E s := by
  obtain ⟨rest, hp⟩ := c.wraps
  refine PySem.W.method_cls I.kIn r.ga (PySem.W.cls_bind I.kIn r.rd c.fnd ?_)
  exact wpAny_call (PySem.W.sm_get (s := { s with toks := s.toks + 1 }) I.kIn hp (PySem.W.handed_on rfl (h _ (I.tok _))))
/-- what raises goes on by the slots as they stand -/
def tSM (C : Addr) (sp : Sp) (dvs : List V) (E : L2.St → XK) (ta : TE) (t : TA) : TE := fun σ H Q => ta σ H fun y H1 => y = .ref C ∧ t σ H1 fun vs H2 => sp (vs ++ dvs) H2 Q (E σ)
theorem pe_sm {C : Addr} {pl : Sem Bool} {E : L2.St → XK} {ta : TE} {t : TA} (he : PE X o ta) (r : ClX.CRead X.K C mc) (c : SMet X.K C mc m q f) (hk : PySem.W.keepIn X.K (.ref f) = true) (Fn : FnOk X.prog X.w X.K X.mg X.base CX k f fd ps sp) (hr : Room k X.A) (hb : Binds X.K fd ps []) (hx : ∀ σ, PassesAt CX X σ (E σ)) (ha : PA X (e :: es) t)
    (hst : starEach (e :: es) X.env = (false, eval e X.env) :: starEach es X.env := by rfl) (hpl : (backTo pos (starEach es X.env)).any (·.1) = false := by rfl)
    (ht : CallsM X o m apos pos pl (e :: es) := by rfl) : PE X (.Call (.Attribute o m apos) (e :: es) [] pos) (tSM C sp [] E ta t) where
  run pn s σ G0 Q I h := by
    refine PySem.W.methodCall_KW (pl := pl) (thn (he.run pn s σ G0 _ I h) ?_) ht
    rintro u s1 ⟨y, G1, I1, ry, ey, z⟩
    subst ey
    obtain rfl : u = Value.ref C := ry
    refine sm_here I1 r c fun s2 I2 => ?_
    refine PySem.W.callWith_K (h₀ := X.base) (first := []) I2.ok.mod.kin hk (thn (ha.run pos pn s2 σ G1 _ I2 z) ?_) hst hpl
    rintro us s3 ⟨vs, G2, I3, rv, z3⟩
    refine ⟨I3.kIn, run_fnS Fn hr hb (hx σ) I3 rv ?_⟩
    rw [List.append_nil] at z3
    exact z3
theorem pass_all {E1 : XK} (h : Passes CX X E1) : ∀ σ, PassesAt CX X σ E1 := fun σ pins H s0 e s1 I z => h pins σ H s0 e s1 I z
section
theorem pp_sm (c : Cl) (he : PE X o (tC (.ref (ct.ad c)))) (r : ClX.CRead X.K (ct.ad c) mc) (sm : SMet X.K (ct.ad c) mc m q f) (hk : PySem.W.keepIn X.K (.ref f) = true) (Fn : FnOk X.prog X.w X.K X.mg X.base CX k f fd ps (spP K ct.ad n G)) (hr : Room k X.A) (hb : Binds X.K fd ps []) (hx : Passes CX X E0) (ha : PA X (e :: es) (TAr K ct W (evAs as)))
    (hst : starEach (e :: es) X.env = (false, eval e X.env) :: starEach es X.env := by rfl) (hpl : (backTo pos (starEach es X.env)).any (·.1) = false := by rfl)
    {pl : Sem Bool} (ht : CallsM X o m apos pos pl (e :: es) := by rfl) : PE X (.Call (.Attribute o m apos) (e :: es) [] pos) (TP K ct W (evCall0 n G as)) := (pe_sm he r sm hk Fn hr hb (pass_all hx) ha hst hpl ht).imp fun σ H Q h => by
  obtain ⟨fr, F, ρ, S, h⟩ := h
  refine ⟨rfl, ?_⟩
  refine Tat.bnd h S fun F1 H1 ρ1 vs ar s1 S1 r1 h => ?_
  rw [List.append_nil]
  rw [List.map_nil, List.append_nil] at h
  exact Tat.call (W := fun _ _ _ _ => False) h.noEr S1 r1 fun _ _ _ z => z
end
/-- cls(..): the class that slot i holds -/
def evMkL (i n : Nat) (G : Fn) (c : Cl) (as : List AE) : Ev := fun ρ => match ρ[i]? with
  | some (.dat (.cl c')) => if c' = c then evMk n G c as [] ρ else none
  | _ => none
end
end PL
end
section
namespace PL
open PySem PySem.Spec PyProof.Rows L2
variable {K : PySem.W.Frag} {ad : Cl → Addr} {ct : CT}
variable {fr : Fr} {F F' H H' : Hp} {σ : L2.St} {ρ : List Sl} {W : WX}
/-! ### max and min with the default None -/
def bestN (f : Int → Int → Int) : List Int → V
  | [] => .non
  | n :: ns => .int (ns.foldl f n)
def wBestN (f : Int → Int → Int) (K : PySem.W.Frag) : List V → List V → Hp → VK → Prop := fun vs zs H Q => ∃ (a : Addr) (ns : List Int), vs = [.ref a] ∧ zs = [.non] ∧ SqL K H a (ns.map V.int) ∧ Q (bestN f ns) H
section
variable {X : Cx}
end
def bestD (f : Int → Int → Int) : List Int → D
  | [] => .non
  | n :: ns => .int (ns.foldl f n)
def gBestN (f : Int → Int → Int) : List D → Option D | [d] => (lints d).map (bestD f) | _ => none
def evBestN (f : Int → Int → Int) (es : List DE) : Ev := bnd (evDs es) fun ds => opt ((gBestN f ds).map Rv.d)
/-! ### x in xs, both data -/
def rInD (K : PySem.W.Frag) (neg : Bool) : R2 := fun x y H Q => ∃ (d : PyData) (xs : List PyData), Dp K H x d ∧ (Dp K H y (.list xs) ∨ Dp K H y (.tuple xs)) ∧ PyData.plainAll xs = true ∧ d.plain = true ∧ d.depth ≤ 60 ∧ Q (.bl (if neg then !(xs.any fun z => PyData.eqv z d) else xs.any fun z => PyData.eqv z d)) H
def D.its : PyData → Option (List PyData) | .list xs => some xs | .tuple xs => some xs | _ => none
def dInDB (d e : D) : Option Bool := match d.py, e.py.bind D.its with
  | some p, some xs => if PyData.plainAll xs && p.plain && decide (p.depth ≤ 60) then some (xs.any fun z => PyData.eqv z p) else none
  | _, _ => none
def dInD (d e : D) : Option D := (dInDB d e).map .bl
def dNotInD (d e : D) : Option D := (dInDB d e).map fun b => .bl (!b)
/-! ### text * n -/
def repS (x : Str) (n : Nat) : Str := ⟨(List.replicate n x.cps).foldl (· ++ ·) #[]⟩
theorem rep_size (a : Array Nat) : ∀ (k : Nat) (b : Array Nat), ((List.replicate k a).foldl (· ++ ·) b).size = b.size + a.size * k
  | 0, b => rfl
  | k + 1, b => by
    rw [List.replicate_succ, List.foldl_cons, rep_size a k, Array.size_append, Nat.mul_succ]
    omega
theorem repS_len (t : Str) (n : Nat) : (repS t n).length = t.length * n := by
  show ((List.replicate n t.cps).foldl (· ++ ·) #[]).size = t.cps.size * n
  rw [rep_size]
  simp
def rMulS : R2 := fun x y H Q => ∃ (t : Str) (n : Int), x = .str t ∧ y = .int n ∧ -(2 ^ 63) ≤ n ∧ n < 2 ^ 63 ∧ t.length * n.toNat ≤ 16777216 ∧ Q (.str (repS t n.toNat)) H
theorem op_mulS {X : Cx} : OpR X (binaryOp .Mult) rMulS := by
  rintro pins s σ H x y v u Q I rx ry ⟨t, n, rfl, rfl, h1, h2, h3, q⟩
  obtain ⟨tk, rfl⟩ := rx
  obtain ⟨tk2, rfl⟩ := ry
  refine PySem.P.mul_str ?_ ?_ ?_ ?_
  · rw [decide_eq_false (by omega), decide_eq_false (by omega)]; rfl
  · intro a _
    have : (t.length : Int) ≤ (2 ^ 63 - 1) / n := by
      refine (Int.le_ediv_iff_mul_le (by omega)).mpr ?_
      have e : ((t.length * n.toNat : Nat) : Int) = (t.length : Int) * n := by rw [Int.natCast_mul, Int.toNat_of_nonneg (by omega)]
      omega
    omega
  · intro _ _
    exact decide_eq_false (by show ¬ t.length * n.toNat > 2 ^ 24; omega)
  · split
    · rename_i a
      have e : repS t n.toNat = Str.empty := by
        rw [show n.toNat = 0 by omega]; rfl
      rw [e] at q
      exact ⟨by decide, ⟨.str _, H, I.tok _, ⟨_, rfl⟩, q⟩⟩
    · split
      · rename_i a b
        have e : repS t n.toNat = t := by
          rw [Bool.or_eq_true] at b
          rcases b with b | b
          · have : n = 1 := by simpa using b
            subst this
            show (⟨#[] ++ t.cps⟩ : Str) = t
            simp
          · have z : t.cps = #[] := by
              have : t.length = 0 := by simpa using b
              exact Array.eq_empty_of_size_eq_zero this
            have : ∀ k, (List.replicate k t.cps).foldl (· ++ ·) #[] = #[] := fun k => by
              rw [z]
              induction k with
              | zero => rfl
              | succ k ih => rw [List.replicate_succ, List.foldl_cons]; exact ih
            unfold repS
            rw [this, ← z]
        rw [e] at q
        exact ⟨.str _, H, I, ⟨_, rfl⟩, q⟩
      · refine ⟨?_, ⟨.str _, H, I.tok _, ⟨_, rfl⟩, q⟩⟩
        show (repS t n.toNat).length ≤ 2 ^ 24
        rw [repS_len]
        omega
def dMulS : D → D → Option D
  | .str t, .int n => if -(2 ^ 63) ≤ n ∧ n < 2 ^ 63 ∧ t.length * n.toNat ≤ 16777216 then some (.str (repS t n.toNat)) else none
  | _, _ => none
theorem o_mulS : O2 K ct.ad rMulS dMulS := by
  intro F H x y d e z Q s r1 r2 h q
  cases d <;> cases e <;> try cases h
  rename_i t n
  cases r1; cases r2
  have h : (if -(2 ^ 63) ≤ n ∧ n < 2 ^ 63 ∧ t.length * n.toNat ≤ 16777216 then some (D.str (repS t n.toNat)) else none) = some z := h
  split at h
  · rename_i c
    cases h
    exact ⟨t, n, rfl, rfl, c.1, c.2.1, c.2.2, q _ (Rp.str _)⟩
  · cases h
end PL
end
section
namespace PL
open PySem PySem.Spec PyProof.Rows L2
/-! ### several clauses, each with a name -/
abbrev Cla := Value × Nat × (Addr → Value → Option Addr → TS)
/-- behind a suite its name is gone -/
def Ends.gone (D : Ends) (i : Nat) : Ends := { nx := fun z G => D.nx (z.set i none) G, rt := D.rt, bk := fun z G => D.bk (z.set i none) G, ct := fun z G => D.ct (z.set i none) G }
/-- what the clauses want of an exception, in their order -/
def wCl (K : PySem.W.Frag) (W0 : WX) (D : Ends) : List Cla → WX
  | [] => W0
  | cl :: r => fun C d z G => ∃ t, PySem.W.exmOne K C cl.1 = some t ∧
    if t = true then ∀ q, G q = none → cl.2.2 q C d (Ends.gone D cl.2.1) (z.set cl.2.1 (some (.ref q))) G else wCl K W0 D r C d z G
inductive Clauses (X : Cx) : List ExceptHandler → List Cla → Prop
  | nil : Clauses X [] []
  | cons {x n : Str} {C : Value} {i : Nat} {ts : Addr → Value → Option Addr → TS} {b0 : Stmt} {bs : List Stmt} {p1 p2 : Pos} {hds : List ExceptHandler} {l : List Cla} (hN : X.N[i]? = some n) (hl : X.env.kindOf n = some .local) (hC : Names X x C)
      (run : ∀ (q : Addr) (o : Obj) (Z : Value) (d : Option Addr) (pn : List (Addr × Obj)), Zc Z d o → (∃ ws, o.data = .fields ws) → PSs (X.suite q ((q, o) :: pn)) (b0 :: bs) (ts q Z d)) (r : Clauses X hds l) :
      Clauses X (.ExceptHandler (some (.Name x p1)) (some n) (b0 :: bs) p2 :: hds) ((C, i, ts) :: l)
section
variable {X : Cx} {body : List Stmt} {hds : List ExceptHandler} {h0 : ExceptHandler} {l : List Cla} {pos : Pos} {tb : WX → TS} {W0 : WX}
end
variable {K : PySem.W.Frag} {ct : CT} {fr : Fr} {F H : Hp} {σ : L2.St} {ρ : List Sl} {W : WX}
abbrev Clp := Nat × List (Cl × Bool) × M Fl
/-- the first clause that takes it -/
def pick : List Clp → Cl → Option D → M Fl
  | [], c, pl => fun ρ => some (.er c pl, ρ)
  | x :: r, c, pl => fun ρ => match x.2.1.lookup c with
    | some true => suiteA x.1 c pl x.2.2 ρ
    | some false => pick r c pl ρ
    | none => none
def evTryM (body : M Fl) (cs : List Clp) : M Fl := fun ρ => match body ρ with
  | some (.er c pl, ρ1) => pick cs c pl ρ1
  | r => r
theorem Sat.suiteA {i : Nat} {c : Cl} {pl : Option D} {d : Option Addr} {s : M Fl} {En : Ends} (h : Sat K ct W En fr F ρ (PL.suiteA i c pl s)) (S : Rel K ct fr F H σ ρ) (pr : PlR K ct.ad F c pl d) (a : Addr) : TSt K (ct.su a (.ref (ct.ad c)) d) WF s (Ends.gone En i) (σ.set i (some (.ref a))) H := by
  obtain ⟨r, ρ', e, q⟩ := h
  unfold PL.suiteA at e
  split at e
  · rename_i n1
    split at e
    · cases e
    · rename_i sl hn hsl
      have np := S.npar hsl hn
      split at e
      · rename_i f ρs es
        split at e
        · rename_i n2
          cases e
          have S3 : Rel K (ct.su a (.ref (ct.ad c)) d) fr F H σ ρ := S.ek rfl n1
          refine ⟨fr, F, _, S3.setX rfl pr np, .ok f, _, es, ?_⟩
          cases f with
          | nx => exact fun σ2 F2 H2 s2 S2 => q _ F2 H2 s2 ((S2.setU np).ek rfl n2)
          | bk => exact fun σ2 F2 H2 s2 S2 => q _ F2 H2 s2 ((S2.setU np).ek rfl n2)
          | ct => exact fun σ2 F2 H2 s2 S2 => q _ F2 H2 s2 ((S2.setU np).ek rfl n2)
          | rt x =>
            intro σ2 v F2 H2 s2 S2 rv
            refine q σ2 v F2 H2 s2 ((S2.unR np).ek rfl n2) ?_
            cases x with
            | d d => exact rv
            | c c =>
              obtain ⟨p, ev, f1, f2, f3, f4, f5⟩ := rv
              refine ⟨p, ev, f1, f2, f3, f4, fun j k c' z1 z2 => ?_⟩
              by_cases w : i = j
              · subst w
                rw [List.getElem?_set] at z1
                split at z1
                · split at z1 <;> cases z1
                · rename_i w; exact absurd rfl w
              · rw [List.getElem?_set_ne w] at z1; exact f5 j k c' z1 z2
        · cases e
      · cases e
    · cases e
  · cases e
variable (K ct) in
inductive PRel : List Clp → List Cla → Prop
  | nil : PRel [] []
  | cons {i : Nat} {cv : Value} {cat : List (Cl × Bool)} {s : M Fl} {cs : List Clp} {l : List Cla} (C : CatOk K ct.ad cv cat) (r : PRel cs l) : PRel ((i, cat, s) :: cs) ((cv, i, fun a Z d => TSt K (ct.su a Z d) WF s) :: l)
section
variable {X : Cx} {body : List Stmt} {hds : List ExceptHandler} {h0 : ExceptHandler} {pos : Pos} {mb : M Fl} {cs : List Clp}
variable (K ct) in
/-- the clauses of a text, and what they are -/
structure ClsOk (X : Cx) (hds : List ExceptHandler) (cs : List Clp) : Prop where
  both : ∃ l, Clauses X hds l ∧ PRel K ct cs l
theorem ClsOk.nil : ClsOk K ct X [] [] := ⟨[], .nil, .nil⟩
theorem ClsOk.cons {x n : Str} {cv : Value} {i : Nat} {b0 : Stmt} {bs : List Stmt} {p1 p2 : Pos} {cat : List (Cl × Bool)} {s : M Fl} (hN : X.N[i]? = some n) (hl : X.env.kindOf n = some .local) (hC : Names X x cv) (C : CatOk K ct.ad cv cat)
    (run : ∀ (q : Addr) (o : Obj) (Z : Value) (d : Option Addr) (pn : List (Addr × Obj)), Zc Z d o → (∃ ws, o.data = .fields ws) → PSs (X.suite q ((q, o) :: pn)) (b0 :: bs) (TSt K (ct.su q Z d) WF s)) (r : ClsOk K ct X hds cs) :
    ClsOk K ct X (.ExceptHandler (some (.Name x p1)) (some n) (b0 :: bs) p2 :: hds) ((i, cat, s) :: cs) := by
  obtain ⟨l, h1, h2⟩ := r.both
  exact ⟨_, .cons hN hl hC run h1, .cons C h2⟩
end
end PL
end
section
namespace PL
open PySem PySem.Spec PyProof.Rows L2
variable {K : PySem.W.Frag} {ct : CT} {fr : Fr} {F H : Hp} {σ : L2.St} {ρ : List Sl} {W : WX}
/-! ### [e for x in xs for y in ys] -/
def lcGo2 (vs : List Nat) (tg : Tg) (c : M Bool) (it : M (List D)) (vs1 : List Nat) (tg1 : Tg) (c1 : M Bool) (e : Ev) : List D → List D → M (List D)
  | [], acc => pur acc
  | x :: xs, acc => fun ρ => match asgT tg x ρ with
    | some (.ok .nx, ρ1) => bnd (noEr c) (fun b => if b then bnd (noEr it) (fun ys => bnd (fun ρ => lcGo vs1 tg1 c1 e ys acc (wipeR ρ vs1)) fun acc' => fun ρ => lcGo2 vs tg c it vs1 tg1 c1 e xs acc' (wipeR ρ vs)) else fun ρ => lcGo2 vs tg c it vs1 tg1 c1 e xs acc (wipeR ρ vs)) ρ1
    | _ => none
def evLc2 (vs : List Nat) (it : M (List D)) (tg : Tg) (c : M Bool) (it1 : M (List D)) (vs1 : List Nat) (tg1 : Tg) (c1 : M Bool) (e : Ev) : Ev := bnd it fun xs => lcRun vs (lcGo2 vs tg c it1 vs1 tg1 c1 e) xs
section
variable {X : Cx}
end
end PL
end
section
namespace PL
open PySem PySem.Spec PyProof.Rows L2
variable {K : PySem.W.Frag} {ad : Cl → Addr} {ct : CT} {fr : Fr} {F H : Hp} {σ : L2.St} {ρ : List Sl} {W : WX}
/-! ### defs with a star parameter -/
variable (K ad) in
/-- n values, the others in a new tuple -/
def spV (n : Nat) (G : Fn) : Sp := fun vs H Q E => ∃ ws rest, vs = ws ++ rest ∧ ws.length = n ∧ rest.length ≤ sizeLine ∧ ∀ p, H p = none → spP K ad (n + 1) G (ws ++ [V.ref p]) (upd H p (.tup rest)) Q E
/-- how such a def binds -/
def BindsV (x qual : Str) (st : Stmt) (ps : List Str) (pv : Str) : Prop := ∀ (kV doc pm : Value) (an : Option Addr) (cdv ctv : Value) (us rest : List Value), us.length = ps.length →
  bindArgs (PySem.W.fnOf x qual (defArgs st) (defBody st) (defScope st) .none kV doc pm an cdv ctv) ⟨us ++ rest, []⟩ = (newTuple rest >>= fun t => pure (ps.zip us ++ [(pv, t)]))
def Ar.data : Ar → Option D | .d z => some z | .c _ => none
def datas : List Ar → Option (List D)
  | [] => some []
  | a :: as => match a.data, datas as with | some d, some ds => some (d :: ds) | _, _ => none
theorem RAs.datas {F : Hp} {σ : L2.St} : ∀ {vs : List V} {as : List Ar} {ds : List D}, RAs K ct.ad F σ vs as → PL.datas as = some ds → Rps K ct.ad F vs ds
  | _, [], _, .nil, h => by cases h; exact .nil
  | _, a :: as, ds, .cons h r, e => by
    unfold PL.datas at e
    cases ea : a.data with
    | none => rw [ea] at e; cases e
    | some d =>
      cases eb : PL.datas as with
      | none => rw [ea, eb] at e; cases e
      | some ds' =>
        rw [ea, eb] at e
        cases e
        cases a with
        | d d' => cases ea; exact .cons h (RAs.datas r eb)
        | c j => cases ea
theorem Rps.takeDrop {F : Hp} : ∀ {n : Nat} {vs : List V} {ds : List D}, Rps K ct.ad F vs ds → Rps K ct.ad F (vs.take n) (ds.take n) ∧ Rps K ct.ad F (vs.drop n) (ds.drop n)
  | 0, _, _, h => ⟨.nil, h⟩
  | n + 1, _, _, .nil => ⟨.nil, .nil⟩
  | n + 1, _, _, .cons h r => let ⟨a, b⟩ := Rps.takeDrop (n := n) r; ⟨.cons h a, b⟩
/-- what the call comes to -/
def callV (n : Nat) (G : Fn) (ds : List D) : Ev := if n ≤ ds.length ∧ ds.length ≤ 1000000 then callG (n + 1) G ((ds.take n).map .d ++ [.d (.tup (ds.drop n))]) else fai
theorem RAs.ofRps {F : Hp} {σ : L2.St} : ∀ {vs : List V} {ds : List D}, Rps K ct.ad F vs ds → RAs K ct.ad F σ vs (ds.map .d)
  | _, _, .nil => .nil
  | _, _, .cons h r => .cons h (RAs.ofRps r)
theorem RAs.app {F : Hp} {σ : L2.St} : ∀ {vs ws : List V} {as bs : List Ar}, RAs K ct.ad F σ vs as → RAs K ct.ad F σ ws bs → RAs K ct.ad F σ (vs ++ ws) (as ++ bs)
  | _, _, _, _, .nil, h => h
  | _, _, _, _, .cons h r, k => .cons h (RAs.app r k)
theorem Tat.callV {n : Nat} {G : Fn} {vs : List V} {ds : List D} {Q : VK} {E : XK} (h : Tat K ct (RV K ct.ad) W fr F ρ (PL.callV n G ds) σ Q) (S : Rel K ct fr F H σ ρ) (r : Rps K ct.ad F vs ds) (hE : ∀ cls d H', W cls d σ H' → E cls d H') : spV K ct.ad n G vs H Q E := by
  unfold PL.callV at h
  by_cases c : n ≤ ds.length ∧ ds.length ≤ 1000000
  · rw [if_pos c] at h
    have l := Rps.len r
    refine ⟨vs.take n, vs.drop n, (List.take_append_drop n vs).symm, by rw [List.length_take]; omega, by rw [List.length_drop]; show _ ≤ 2 ^ 24; omega, fun p hp => ?_⟩
    have up := same_up (S.nn hp) (o := .tup (vs.drop n))
    obtain ⟨ra, rb⟩ := r.takeDrop (n := n)
    refine Tat.call (ar := (ds.take n).map .d ++ [.d (.tup (ds.drop n))]) (F := upd F p (.tup (vs.drop n))) ?_ (S.newD hp) ?_ hE
    · obtain ⟨r0, ρ0, e, q⟩ := h
      refine ⟨r0, ρ0, e, ?_⟩
      cases r0 with
      | ok a => exact fun v F' H' s' S' rr => q v F' H' (up.trans s') S' rr
      | er c pl => exact fun d F' H' s' S' rr => q d F' H' (up.trans s') S' rr
    · exact RAs.app (RAs.ofRps (ra.mono up)) (.cons (show RA1 K ct.ad _ σ (V.ref p) (.d (.tup (ds.drop n))) from Rp.tup (SqT.of upd_same) (rb.mono up)) .nil)
  · rw [if_neg c] at h
    obtain ⟨_, _, e, _⟩ := h; cases e
/-! is, is not between truth values -/
def dIsB : D → D → Option D | .bl a, .bl true => some (.bl a) | .bl a, .bl false => some (.bl (!a)) | _, _ => none
def dNotB : D → D → Option D | .bl a, .bl true => some (.bl (!a)) | .bl a, .bl false => some (.bl a) | _, _ => none
def rIsB : R2 := fun x y H Q => ∃ a b, x = .bl a ∧ y = .bl b ∧ Q (.bl (decide (a = b))) H
def rNotB : R2 := fun x y H Q => ∃ a b, x = .bl a ∧ y = .bl b ∧ Q (.bl (!decide (a = b))) H
theorem op_isBB {X : Cx} : OpR X (compareOp .Is) rIsB := op_is_bl
theorem o_isB : O2 K ct.ad rIsB dIsB := by
  intro F H x y d e z Q s r1 r2 e1 q
  cases r1 <;> cases r2 <;> try cases e1
  rename_i a b
  refine ⟨a, b, rfl, rfl, q _ ?_⟩
  cases a <;> cases b <;> cases e1 <;> exact .bl _
def evCallV (n : Nat) (G : Fn) (as : List AE) : Ev := bnd (evAs as) fun ar => bnd (opt (datas ar)) fun ds => callV n G ds
def evCallV0 (n : Nat) (G : Fn) (as : List AE) : Ev := bnd (evAs as) fun ar => bnd (opt (datas ar)) fun ds => noEr (callV n G ds)
/-- f(*xs) -/
def evCallVS (n : Nat) (G : Fn) (m : Ev) : Ev := bnd (dat m) fun d => bnd (opt d.items) fun ds => callV n G ds
section
variable {X : Cx} {CX : CXT} {k : Nat} {f : Addr} {x : Str} {p pos sp_ : Pos} {e : Expr} {es : List Expr} {n : Nat} {G : Fn} {as : List AE} {m : Ev} {sp : Sp} {E : L2.St → XK} {t : TA} {te : TE}
end
end PL
end
section
/-! enumerate over a tuple -/
namespace OW
open PySem PySem.Spec PyProof.Rows L2
/-- the tuple at a, each item in a new pair with its place -/
def ItE (K : PySem.W.Frag) (a : Addr) : It :=
  ⟨fun i H => ∃ (xs : List V) (x : V), SqT K H a xs ∧ xs[i]? = some x, fun i H v H' => ∃ T x, v = .ref T ∧ H T = none ∧ H' = upd H T (.tup [.int (i : Nat), x]) ∧ ∀ xs, SqT K H a xs → xs[i]? = some x, fun i H => ∃ xs : List V, SqT K H a xs ∧ xs.length ≤ i⟩
def iEnumT (K : PySem.W.Frag) (ta : TA) : TI := fun σ H R => ta σ H fun vs H1 => ∃ a xs, vs = [.ref a] ∧ SqT K H1 a xs ∧ R (ItE K a) H1
/-! the sum of a tuple of ints -/
def rSumT (K : PySem.W.Frag) : List V → Hp → VK → Prop := fun vs H Q => ∃ (a : Addr) (ns : List Int), vs = [V.ref a] ∧ SqT K H a (ns.map V.int) ∧ Q (.int ns.sum) H
end OW
namespace PL
open PySem PySem.Spec PyProof.Rows L2
variable {K : PySem.W.Frag} {ct : CT} {W : WX} {F : Hp} {X : Cx}
/-- each item with its place -/
def enumD (xs : List D) : List D := xs.zipIdx.map fun p => .tup [.int (p.2 : Int), p.1]
def itET (e : Ev) : M (List D) := bnd (dat e) fun d => match d with | .tup xs => pur (enumD xs) | _ => fai
def itEL (e : Ev) : M (List D) := bnd (dat e) fun d => match d with | .lst xs => pur (enumD xs) | .sq xs => pur (enumD xs) | _ => fai
def tints (d : D) : Option (List Int) := d.titems.bind D.ints
def gSumT : List D → Option D | [d] => (tints d).map fun ns => .int ns.sum | _ => none
/-! how often a text lies in another -/
def evCnt (o e : Ev) : Ev := bnd (dat o) fun x => match x with
  | .str a => bnd (dat e) fun y => match y with
    | .str b => pur (.d (.int (Txt.count a b)))
    | _ => fai
  | _ => fai
/-! zip of two lists, of two tuples -/
def zipD (xs ys : List D) : List D := (xs.zip ys).map fun p => .tup [p.1, p.2]
theorem zipD_at {xs ys : List D} {i : Nat} {x : D} (e : (zipD xs ys)[i]? = some x) : ∃ a b, xs[i]? = some a ∧ ys[i]? = some b ∧ x = .tup [a, b] := by
  unfold zipD at e
  rw [List.getElem?_map] at e
  obtain ⟨p, e1, e2⟩ := Option.map_eq_some_iff.mp e
  obtain ⟨h1, h2⟩ := List.getElem?_zip_eq_some.mp e1
  exact ⟨p.1, p.2, h1, h2, e2.symm⟩
theorem al_new {F1 H1 : Hp} {T : Addr} {o : HO} (s2 : Same F1 H1) (hT : H1 T = none) : Al F1 H1 (upd F1 T o) (upd H1 T o) ∧ Same F1 (upd F1 T o) := by
  have fT : F1 T = none := by
    cases q : F1 T with
    | none => rfl
    | some o => rw [s2 _ _ q] at hT; cases hT
  refine ⟨⟨same_up fT, same_up hT, fun b u q => ?_, fun b hb fb => ?_⟩, same_up fT⟩
  · by_cases c : b = T
    · subst c; rw [upd_same] at q; rw [upd_same]; exact q
    · rw [upd_ne c] at q; rw [upd_ne c]; exact s2 _ _ q
  · rw [upd_ne (fun q => hb (by rw [q]; exact hT))]
    exact fb
def itZ (a b : Ev) : M (List D) := bnd (dat a) fun x => bnd (dat b) fun y => match x, y with
  | .lst xs, .lst ys => pur (zipD xs ys)
  | .tup xs, .tup ys => pur (zipD xs ys)
  | _, _ => fai
/-! range with a step -/
def rng3D (lo c : Int) (n : Nat) : List D := (List.range n).map fun (i : Nat) => .int (lo + i * c)
/-- what a range may be -/
def stepOk (i j c : Int) : Prop := c ≠ 0 ∧ c.natAbs < 1073741824 ∧ Builtin.Range.small i j c = true ∧ 0 ≤ Builtin.Range.rangeSize i j c
instance {i j c : Int} : Decidable (stepOk i j c) := by unfold stepOk; exact inferInstance
def itR3 (a b c : Ev) : M (List D) := bnd (dat a) fun x => bnd (dat b) fun y => bnd (dat c) fun z => match x, y, z with
  | .int i, .int j, .int k => if stepOk i j k then pur (rng3D i k (Builtin.Range.rangeSize i j k).toNat) else fai
  | _, _, _ => fai
end PL
end
section
namespace PL
open PySem PySem.Spec PyProof.Rows L2
/-! ### a comprehension that goes into a name which another comprehension reads: no exchange of stores -/
/-! ### t[::2], t[1::2], t[::-1] of a tuple -/
def evs {α : Type} : List α → List α | [] => [] | [a] => [a] | a :: _ :: r => a :: evs r
def ods {α : Type} : List α → List α | [] => [] | [_] => [] | _ :: b :: r => b :: ods r
theorem evs_len {α : Type} : ∀ xs : List α, (evs xs).length = (xs.length + 1) / 2
  | [] => by simp [evs]
  | [_] => by simp [evs]
  | _ :: _ :: r => by rw [evs, List.length_cons, evs_len r, List.length_cons, List.length_cons]; omega
theorem ods_len {α : Type} : ∀ xs : List α, (ods xs).length = xs.length / 2
  | [] => by simp [ods]
  | [_] => by simp [ods]
  | _ :: _ :: r => by rw [ods, List.length_cons, ods_len r, List.length_cons, List.length_cons]; omega
theorem evs_get {α : Type} : ∀ (xs : List α) (k : Nat), (evs xs)[k]? = xs[2 * k]?
  | [], k => by simp [evs]
  | [a], 0 => rfl
  | [a], k + 1 => by rw [evs, List.getElem?_cons_succ, List.getElem?_nil, List.getElem?_eq_none (by simp; omega)]
  | a :: b :: r, 0 => rfl
  | a :: b :: r, k + 1 => by rw [evs, List.getElem?_cons_succ, evs_get r k, show 2 * (k + 1) = 2 * k + 1 + 1 by omega, List.getElem?_cons_succ, List.getElem?_cons_succ]
theorem ods_get {α : Type} : ∀ (xs : List α) (k : Nat), (ods xs)[k]? = xs[2 * k + 1]?
  | [], k => by simp [ods]
  | [a], k => by rw [ods, List.getElem?_nil, List.getElem?_eq_none (by simp)]
  | a :: b :: r, 0 => rfl
  | a :: b :: r, k + 1 => by rw [ods, List.getElem?_cons_succ, ods_get r k, show 2 * (k + 1) + 1 = 2 * k + 1 + 1 + 1 by omega, List.getElem?_cons_succ, List.getElem?_cons_succ]
theorem fm_get {α : Type} {xs ys : List α} {f : Nat → Nat} (h : ∀ k, k < ys.length → xs[f k]? = ys[k]?) : (List.range ys.length).filterMap (fun k => xs[f k]?) = ys := by
  have go : ∀ n, n ≤ ys.length → (List.range n).filterMap (fun k => xs[f k]?) = ys.take n := by
    intro n
    induction n with
    | zero => intro _; rfl
    | succ n ih =>
      intro hn
      rw [List.range_succ, List.filterMap_append, ih (by omega), List.take_add_one, List.filterMap_cons, List.filterMap_nil, h n (by omega)]
      cases ys[n]? <;> rfl
  rw [go _ (Nat.le_refl _), List.take_length]
/-- which slice with a step -/
inductive StK | ev | od | rv
def StK.lo : StK → Option Int | .od => some 1 | _ => none
def StK.st : StK → Int | .rv => -1 | _ => 2
def StK.ap {α : Type} (k : StK) (xs : List α) : List α := match k with | .ev => evs xs | .od => ods xs | .rv => xs.reverse
theorem StK.len {α : Type} (k : StK) (xs : List α) : (k.ap xs).length ≤ xs.length := by
  cases k with
  | ev => show (evs xs).length ≤ _; rw [evs_len]; omega
  | od => show (ods xs).length ≤ _; rw [ods_len]; omega
  | rv => show xs.reverse.length ≤ _; rw [List.length_reverse]; omega
theorem StK.pick {α : Type} (k : StK) (xs : List α) :
    (List.range (Builtin.Slice.slicePlaces (Builtin.Slice.sliceAdjust k.lo none k.st xs.length).1 (Builtin.Slice.sliceAdjust k.lo none k.st xs.length).2 k.st)).filterMap (fun (m : Nat) => xs[((Builtin.Slice.sliceAdjust k.lo none k.st xs.length).1 + (m : Int) * k.st).toNat]?) = k.ap xs := by
  have key : ∀ (a : Int) (s : Int) (n : Nat) (ys : List α), n = ys.length → (∀ m, m < ys.length → xs[(a + (m : Int) * s).toNat]? = ys[m]?) → (List.range n).filterMap (fun (m : Nat) => xs[(a + (m : Int) * s).toNat]?) = ys := by
    intro a s n ys e h
    subst e
    exact fm_get (f := fun m => (a + (m : Int) * s).toNat) h
  cases k with
  | ev =>
    refine key _ _ _ _ ?_ fun m hm => ?_
    · show Builtin.Slice.slicePlaces (Builtin.Slice.sliceAdjust none none 2 (xs.length : Int)).1 (Builtin.Slice.sliceAdjust none none 2 (xs.length : Int)).2 2 = (evs xs).length
      rw [evs_len]
      unfold Builtin.Slice.sliceAdjust Builtin.Slice.slicePlaces
      simp
      split <;> omega
    · show xs[((Builtin.Slice.sliceAdjust none none 2 (xs.length : Int)).1 + (m : Int) * 2).toNat]? = (evs xs)[m]?
      rw [evs_get]
      congr 1
      (unfold Builtin.Slice.sliceAdjust; simp; omega)
  | od =>
    refine key _ _ _ _ ?_ fun m hm => ?_
    · show Builtin.Slice.slicePlaces (Builtin.Slice.sliceAdjust (some 1) none 2 (xs.length : Int)).1 (Builtin.Slice.sliceAdjust (some 1) none 2 (xs.length : Int)).2 2 = (ods xs).length
      rw [ods_len]
      unfold Builtin.Slice.sliceAdjust Builtin.Slice.slicePlaces
      simp
      split <;> omega
    · show xs[((Builtin.Slice.sliceAdjust (some 1) none 2 (xs.length : Int)).1 + (m : Int) * 2).toNat]? = (ods xs)[m]?
      have hm : m < (ods xs).length := hm
      rw [ods_len] at hm
      rw [ods_get]
      congr 1
      (unfold Builtin.Slice.sliceAdjust; simp; omega)
  | rv =>
    refine key _ _ _ _ ?_ fun m hm => ?_
    · show Builtin.Slice.slicePlaces (Builtin.Slice.sliceAdjust none none (-1) (xs.length : Int)).1 (Builtin.Slice.sliceAdjust none none (-1) (xs.length : Int)).2 (-1) = xs.reverse.length
      rw [List.length_reverse]
      unfold Builtin.Slice.sliceAdjust Builtin.Slice.slicePlaces
      simp
      split <;> omega
    · show xs[((Builtin.Slice.sliceAdjust none none (-1) (xs.length : Int)).1 + (m : Int) * (-1)).toNat]? = xs.reverse[m]?
      have hm : m < xs.reverse.length := hm
      rw [List.length_reverse] at hm
      rw [List.getElem?_reverse hm]
      congr 1
      (unfold Builtin.Slice.sliceAdjust; simp; omega)
theorem StK.map {α β : Type} {R : α → β → Prop} : ∀ (k : StK) {xs : List α} {ys : List β}, xs.length = ys.length → (∀ (i : Nat) (x : α), xs[i]? = some x → ∃ y, ys[i]? = some y ∧ R x y) → (k.ap xs).length = (k.ap ys).length ∧ ∀ (i : Nat) (x : α), (k.ap xs)[i]? = some x → ∃ y, (k.ap ys)[i]? = some y ∧ R x y := by
  intro k xs ys hl h
  cases k with
  | ev => exact ⟨by show (evs xs).length = (evs ys).length; rw [evs_len, evs_len, hl], fun i x (e : (evs xs)[i]? = _) => by
      rw [evs_get] at e; obtain ⟨y, h1, h2⟩ := h _ x e; exact ⟨y, by show (evs ys)[i]? = _; rw [evs_get]; exact h1, h2⟩⟩
  | od => exact ⟨by show (ods xs).length = (ods ys).length; rw [ods_len, ods_len, hl], fun i x (e : (ods xs)[i]? = _) => by
      rw [ods_get] at e; obtain ⟨y, h1, h2⟩ := h _ x e; exact ⟨y, by show (ods ys)[i]? = _; rw [ods_get]; exact h1, h2⟩⟩
  | rv => exact ⟨by show xs.reverse.length = ys.reverse.length; rw [List.length_reverse, List.length_reverse, hl], fun i x (e : xs.reverse[i]? = _) => by
      have l : i < xs.reverse.length := by
        rcases Nat.lt_or_ge i xs.reverse.length with q | q
        · exact q
        · rw [List.getElem?_eq_none q] at e; cases e
      rw [List.length_reverse] at l
      rw [List.getElem?_reverse l] at e
      obtain ⟨y, h1, h2⟩ := h _ x e
      refine ⟨y, ?_, h2⟩
      show ys.reverse[i]? = _
      rw [List.getElem?_reverse (by omega), ← hl]
      exact h1⟩
variable {K : PySem.W.Frag} {ad : Cl → Addr} {ct : CT}
section
variable {prog : Program} {w : World} {A : Around} {E : Value → Shared → Prop} {s : Shared}
/-- where such a slice begins, and how many places it has -/
def StK.at0 (k : StK) (n : Int) : Int := (Builtin.Slice.sliceAdjust k.lo none k.st n).1
def StK.many (k : StK) (n : Int) : Nat := Builtin.Slice.slicePlaces (k.at0 n) (Builtin.Slice.sliceAdjust k.lo none k.st n).2 k.st
end
section
variable {fr : Fr} {F F' H H' : Hp} {σ : L2.St} {ρ : List Sl} {W : WX} {X : Cx}
def tStT (K : PySem.W.Frag) (k : StK) (te : TE) : TE := fun σ H Q => te σ H fun x H1 => ∃ a xs, x = .ref a ∧ SqT K H1 a xs ∧ ∀ p, H1 p = none → Q (.ref p) (upd H1 p (.tup (k.ap xs)))
/-- the written parts of such a slice -/
inductive StE : StK → Option Expr → Option Expr → Prop
  | ev (k : Nat) (p : Pos) : StE .ev none (some (.Constant (.int 2) k p))
  | od (k k' : Nat) (p p' : Pos) : StE .od (some (.Constant (.int 1) k' p')) (some (.Constant (.int 2) k p))
  | rv (k : Nat) (p p' : Pos) : StE .rv none (some (.UnaryOp .USub (.Constant (.int 1) k p) p'))
theorem PO.get {lo : Option Expr} {to : TO} (h : PO X lo to) {pins : List (Addr × Obj)} {s : Shared} {σ : L2.St} {H : Hp} {o : Option Int} (I : Inv X pins σ H s) (q : to σ H fun o' H' => o' = o ∧ H' = H) :
    wpAny (model X.prog X.w) X.A (evalPart lo X.env) (fun vl s1 => Inv X pins σ H s1 ∧ IsPart vl o) X.xe s :=
  thn (h.run pins s σ H _ I q) fun vl s1 ⟨l, H2, I2, pl, el, e2⟩ => by subst el e2; exact ⟨I2, pl⟩
def evSt (k : StK) (m : Ev) : Ev := bnd (dat m) fun d => match d with | .tup xs => vD (.tup (k.ap xs)) | _ => fai
end
/-! ### x in o, x not in o, also as tests -/
end PL
namespace OW
open PySem PySem.Spec PyProof.Rows L2
section
variable {CX : CXT} {X : Cx} {C : Addr} {f : Addr} {fd : FuncData} {k : Nat} {ps : List Str} {sp : Sp} {E : XK}
end
end OW
namespace PL
open PySem PySem.Spec PyProof.Rows L2
section
variable {CX : CXT} {K : PySem.W.Frag} {ct : CT} {fr : Fr} {F F' H H' : Hp} {σ : L2.St} {ρ : List Sl} {W : WX} {X : Cx} {f : Addr} {fd : FuncData} {k : Nat} {ps : List Str} {n : Nat} {G : Fn} {pos : Pos}
/-- x not in o -/
def evOwnNin (n : Nat) (G : Fn) (c : Cl) (a b : Ev) : Ev := bnd (dat a) fun x => bnd (dat b) fun d => match d with
  | .obj c' xs => if c' = c then tst (noEr (callG n G [.d (.obj c xs), .d x])) |> fun t => bnd t fun b => vD (.bl (!b)) else fai
  | _ => fai
variable {m : Str} {a b : Expr} {fa fb : Ev}
end
end PL
/-! ### min, max, sum over a list or a tuple -/
namespace OW
open PySem PySem.Spec PyProof.Rows L2
def rMinT (K : PySem.W.Frag) : List V → Hp → VK → Prop := fun vs H Q => ∃ (a : Addr) (ns : List Int), vs = [V.ref a] ∧ SqT K H a (ns.map V.int) ∧ ns ≠ [] ∧ Q (.int (PL.minI ns)) H
def rMaxT (K : PySem.W.Frag) : List V → Hp → VK → Prop := fun vs H Q => ∃ (a : Addr) (ns : List Int), vs = [V.ref a] ∧ SqT K H a (ns.map V.int) ∧ ns ≠ [] ∧ Q (.int (PL.maxI ns)) H
/-- either of two readings of a call -/
def rOr (r1 r2 : List V → Hp → VK → Prop) : List V → Hp → VK → Prop := fun vs H Q => r1 vs H Q ∨ r2 vs H Q
end OW
namespace PL
open PySem PySem.Spec PyProof.Rows L2
section
variable {K : PySem.W.Frag} {ad : Cl → Addr} {X : Cx}
def aints (d : D) : Option (List Int) := d.items.bind D.ints
def gMinA : List D → Option D | [d] => (aints d).bind fun ns => if ns ≠ [] then some (.int (minI ns)) else none | _ => none
def gMaxA : List D → Option D | [d] => (aints d).bind fun ns => if ns ≠ [] then some (.int (maxI ns)) else none | _ => none
def gSumA : List D → Option D | [d] => (aints d).map fun ns => .int ns.sum | _ => none
end
end PL
end
section
/-! an exception class over a class over ValueError, whose __init__ says super().__init__(text) and then stores its one value -/
namespace EX
abbrev bmVE : List PySem.Value := [.type "ValueError", .type "Exception", .type "BaseException", .type "object"]
open PySem PySem.Spec PyProof.Rows L2
/-! ### a value told in a text -/
def FmtOk (K : PySem.W.Frag) (v : V) (H : Hp) : Prop := (∃ y : Str, v = .str y ∧ y.length ≤ 3000) ∨ (∃ i : Int, v = .int i ∧ i.natAbs.log2 < 1920) ∨ ∃ (t : Addr) (l : List Int), v = .ref t ∧ SqT K H t (l.map V.int) ∧ l.length ≤ 4 ∧ ∀ i ∈ l, i.natAbs.log2 < 1920
theorem reprs_ints {prog : Program} {w : World} : ∀ {l : List Int} {its : List Value}, Vals (l.map V.int) its → (∀ i ∈ l, i.natAbs.log2 < 1920) → ReprAll prog w its (l.map fun i => ((toString i : String) : Str))
  | [], _, r, _ => by
    cases r
    exact .nil
  | i :: l, _, r, h => by
    cases r with
    | cons r1 r2 =>
      obtain ⟨t, rfl⟩ := r1
      exact .cons (ReprIs.int t (h i List.mem_cons_self)) (reprs_ints r2 fun z hz => h z (List.mem_cons_of_mem _ hz))
theorem piled_ints : ∀ l : List Int, (∀ i ∈ l, i.natAbs.log2 < 1920) → piled (l.map fun i => ((toString i : String) : Str)) ≤ 1930 * l.length
  | [], _ => Nat.zero_le _
  | i :: l, h => by
    have h1 := PyProof.Rows.int_text_len_1921 (h i List.mem_cons_self)
    have h2 := piled_ints l fun z hz => h z (List.mem_cons_of_mem _ hz)
    have e : ((toString i : String) : Str) = PySem.Str.ofString (toString i) := rfl
    rw [List.map_cons, piled_cons, List.length_cons, e]
    omega
/-- {x}: some text -/
def tFmtA (K : PySem.W.Frag) (te : TE) : TE := fun σ H Q => te σ H fun x H1 => FmtOk K x H1 ∧ ∀ m : Str, m.length ≤ 10000 → Q (.str m) H1
theorem pe_fmtA {X : Cx} {e : Expr} {te : TE} {pos : Pos} {k : Nat} (hr : Room k X.A) (he : PE X e te) : PE X (.FormattedValue e (-1) none pos) (tFmtA X.K te) := by
  (refine ⟨fun pins s σ H Q I h => ?_⟩)
  (refine wpAny_FormattedValue_plain (thn (he.run pins s σ H _ I h) fun v s1 hv => ?_))
  obtain ⟨x, H1, I1, r1, ⟨y, rfl, hy⟩ | ⟨i, rfl, hi⟩ | ⟨a, l, rfl, ht, hl, hi⟩, q⟩ := hv
  · obtain ⟨t, rfl⟩ := r1
    exact wpAny_formatField_str ⟨.str y, H1, I1, ⟨t, rfl⟩, q _ (by omega)⟩ ⟨.str y, H1, I1.tok _, ⟨_, rfl⟩, q _ (by omega)⟩ (by rw [sizeLine_eq]; omega)
  · obtain ⟨t, rfl⟩ := r1
    have := PyProof.Rows.int_text_len_1921 hi
    exact wpAny_formatField_int hi ⟨.str (toString i), H1, I1.tok _, ⟨_, rfl⟩, q _ (by have e : ((toString i : String) : Str) = PySem.Str.ofString (toString i) := rfl; rw [e]; omega)⟩
  · cases r1
    (obtain ⟨its, rv, ⟨o, ho, hcl, n, hd⟩, _⟩ := I1.tuple ht)
    have hp := piled_ints l hi
    have htx := fmt_text (l.map fun i => ((toString i : String) : Str))
    have hu := hr.units
    exact fmt_tuple (ts := l.map fun i => ((toString i : String) : Str)) (by omega) ho hcl hd (reprs_ints rv hi) (by rw [sizeLine_eq]; omega) fun m u tk hm => ⟨.str m, H1, I1.tok _, ⟨u, rfl⟩, q m (by omega)⟩
/-! ### the def -/
/-- what is known at the start of the body: its frame, the cell of __class__ -/
def cxX (P : Program) (w : World) (K : PySem.W.Frag) (mg : Str → Option Value) (base : Heap) (N : List Str) (qual : Str) (scope : Scope) (f : Addr) (cd : Value) (cc : Addr) (A : Around) (outer : List Env) (s : Shared) (H : Hp) : Cx where
  prog := P
  w := w
  K := K
  mg := mg
  base := base
  A := A.deeper (PySem.W.ksEnv qual scope s.heap.objs.size f cd cc)
  N := N
  s_0 := s
  H_0 := H
  env := PySem.W.ksEnv qual scope s.heap.objs.size f cd cc
  outer := outer
  stack := PySem.W.ksEnv qual scope s.heap.objs.size f cd cc :: outer
  ex := []
  calm := true
  fn := fun _ => false
  pn := []
  xe := fun _ _ => False
section
variable {P : Program} {w : World} {K : PySem.W.Frag} {mg : Str → Option Value} {base : Heap} {A : Around} {outer : List Env} {s : Shared} {H : Hp} {h₀ : Heap} {N : List Str} {qual : Str} {scope : Scope} {f cc D : Addr} {cd : Value} {σ : L2.St} {t' : Nat} {m : Str → Option Value}
  {cl : Value} {cld : Option Addr} {csl : Array (Option Value)}
theorem look1 {x : Str} {c : Addr} (h : ([("__class__", cc)] : List (Str × Addr)).lookup x = some c) : x = "__class__" ∧ c = cc := by
  by_cases e : x = "__class__"
  · subst e
    simp at h
    exact ⟨rfl, h.symm⟩
  · have : (x == ("__class__" : Str)) = false := by simpa using e
    rw [List.lookup_cons, this] at h
    simp at h
theorem inv_startX (hk : scope.kind = .function) (e0 : Env0 P w K mg base A outer s H) (hd : A.handled = none) (hcell : K.lookup cc = some ⟨cl, cld, .cell (some (.ref D)), csl⟩) (hfr : ∀ x, scope.names.lookup x = some .free → x = "__class__") (hnc : ∀ y ∈ scope.names, y.2 ≠ .cell)
    (hn : h₀.Ns s.heap.objs.size m) (k : ∀ b o, s.heap.get? b = some o → h₀.get? b = some o) (hm : ∀ (i : Nat) (x : Str) (v : V), N[i]? = some x → σ[i]? = some (some v) → ∃ u, RelV v u ∧ m x = some u ∧ scope.names.lookup x = some .local) (len : σ.length = N.length) :
    Inv (cxX P w K mg base N qual scope f cd cc A outer s H) [] σ H { s with heap := h₀, toks := t' } := by
  have noA : ∀ b : Addr, b ∉ (cxX P w K mg base N qual scope f cd cc A outer s H).ex := fun b z => absurd (show b ∈ ([] : List Addr) from z) (by simp)
  have cb := e0.mod.kin _ _ hcell
  have cs := e0.bs _ _ cb
  refine ⟨⟨e0.mod, hk, rfl, rfl, Nat.le_refl _, fun y z c h1 h2 => ?_, fun y hy => ?_, fun y c h _ => (by cases h), fun _ => hd, Around.frames_deeper e0.frames, .inr ⟨rfl, rfl⟩, fun b z => absurd z (noA b), e0.bs, e0.bsz, fun b _ _ => noA b, fun b z => absurd z (noA b), e0.funs, e0.frf⟩,
    rfl, e0.bare, Un.kept k, ⟨_, hn, fun i y v h1 h2 h3 => ?_⟩, fun y c h => ?_, e0.hok.fresh (Nat.le_refl _), fun y c h => ?_, fun p hp => absurd (show p ∈ ([] : List (Addr × Obj)) from hp) (by simp), e0.hok.kept k, len⟩
  · rw [(look1 h1).1, (look1 h2).1]
  · (have hy : scope.names.lookup y = some .cell ∨ scope.names.lookup y = some .free := hy)
    rcases hy with hy | hy
    · exact absurd rfl (hnc _ (PySem.mem_of_lookup hy))
    · rw [hfr y hy]
      exact ⟨cc, rfl⟩
  · obtain ⟨u, r, h4, h5⟩ := hm i y v h1 h2
    exact ⟨u, r, .inl ⟨h5, h4⟩⟩
  · rw [(look1 h).2]
    exact ⟨_, _, k _ _ cs.1, rfl⟩
  · rw [(look1 h).2]
    exact cs.2
end
section
open PySem.W PySem.Calls
variable {A : Around} {prog : Program} {E : Value → Shared → Prop} {w : World}
variable {h : Heap} {g : Array GenState} {d : Drawn} {t : Nat} {os : OsState}
/-- super().__init__(text) is called: the object's args are laid anew -/
theorem mw_call {K : Frag} {u x C t0 : Addr} {rest : List Value} {Q : Value → Shared → Prop} (X : K.In h) (q : excInitIn K C bmVE "ValueError.__new__" = true) (hu : h.get? u = some (kxs_mw "ValueError.__init__" x)) (he : h.get? x = some (PySem.HandSPX.excO C t0)) (hz : rest.length ≤ sizeLine)
    (hq : ∀ h' t1, (∀ b o, b ≠ x → h.get? b = some o → h'.get? b = some o) → h'.get? x = some (PySem.HandSPX.excO C t1) → Q .none ⟨h', g, d, t, os⟩) :
    wpAny (model prog w) A
      (call (.ref u) rest) Q E ⟨h, g, d, t, os⟩ := by
  have FB := PySem.F.excBase_ValueError
  (obtain ⟨nm, N', qn, bs, bm, hdct, sn, sub, ab, col, dd, k0, k1, k2, k3, k5, hC, hT⟩ := excInit_of X q)
  (refine wpAny_call (codeAny_of_tree ?_))
  (show wpAny _ A.in1 (callAny (.ref u) ⟨rest, []⟩) _ _ _)
  simp only [callAny]
  (refine wpAny_bind (wpAny_load hu ?_))
  (simp only [kxs_mw, show (Value.type "method-wrapper" == Value.type "method" || Value.type "method-wrapper" == Value.type "builtin_function_or_method" || Value.type "method-wrapper" == Value.type "method-wrapper") = true by decide, if_true])
  (refine KFB.if_so (by decide) ?_)
  (refine wpAny_bind (check_bound_init FB.toExcCallFacts hC he rfl ?_))
  (refine wpAny_bind (wpAny_pure (wpAny_pure ?_)))
  (refine ⟨plainId_quiet FB.init.plain _, codeAny_builtin FB.initEntry ?_⟩)
  exact exc_init_tree (cls := .ref C) (t0 := t0) (dv := none) (c2 := .none) (c3 := .none) (b4 := .bool false) he hz fun h' k e' _ => hq h' _ k e'
end
abbrev sfS : Str := "self"
/-- the argument's text -/
def tA (K : PySem.W.Frag) : TE := fun σ H Q => ∃ v, σ[1]? = some (some v) ∧ FmtOk K v H ∧ ∀ m : Str, m.length ≤ 11000 → Q (.str m) H
/-- the promise: at a stands a new exception of the class; its field gets the value -/
def spE (K : PySem.W.Frag) (C : Addr) (fld : Str) : Sp := fun vs H Q _ => ∃ (a : Addr) (v : V), vs = [.ref a, v] ∧ H a = some (exo a C none) ∧ FmtOk K v H ∧ ∀ dx, H dx = none → dx ≠ a → Q .non (upd (upd H dx (exd dx [(fld, v)])) a (exo a C (some dx)))
section
open PySem.W PySem.Calls
variable {P : Program} {w : World} {K : PySem.W.Frag} {mg : Str → Option Value} {base : Heap} {k : Nat} {f C cc cda : Addr} {fld x name qual : Str} {params : Arguments} {body : List Stmt} {scope : Scope} {dV kV doc pm ct oc ccl cl : Value} {an od cdd cld : Option Addr} {osl ccs csl : Array (Option Value)}
  {vs : Array Value} {file : Str} {tf : Tok} {cdD : ClassData} {ar : Arg} {p0 p1 p2 p3 p4 q1 q2 q3 q4 : Pos} {e : Expr}
theorem ok_exI (look : K.lookup f = some ⟨oc, od, .func (ksFn name qual params body scope dV kV doc pm an (.ref cda) ct cc), osl⟩) (code : codeIn K (.ref cda) qual = true)
    (hp : (params.posonlyargs ++ params.args).head? = some ar) (har : ar.arg = "self") (hcode : K.lookup cda = some ⟨ccl, cdd, .fields vs, ccs⟩) (hvs : vs[2]? = some (.str file tf)) (hfile : ((P.main.file : Str) == file) = true)
    (hcell : K.lookup cc = some ⟨cl, cld, .cell (some (.ref C)), csl⟩) (hD : clsIn K C = some cdD) (hsub : mroIn K C (.ref C) = some true) (hsuper : mg "super" = none)
    (hks : scope.names.lookup ("super" : Str) = some .globalImplicit) (hkc : scope.names.lookup ("__class__" : Str) = some .free) (hself : scope.names.lookup ("self" : Str) = some .local) (hx : scope.names.lookup x = some .local) (hxs : x ≠ "self")
    (hnc : ∀ y ∈ scope.names, y.2 ≠ .cell) (hfr : ∀ y, scope.names.lookup y = some .free → y = "__class__") (hk : scope.kind = .function) (hco : scope.isCoroutine = false) (hgen : scope.isGenerator = false)
    (htop : (P.main.scope.names.lookup ("super" : Str)).isSome = false) (hop : nsIn K cStatics "thirdparty.any" = some none) (hsup : ks_superIn K C C "__init__" = some (some (.builtin "ValueError.__init__")))
    (hVE : subIn K (.ref C) (.type "ValueError") = some true) (hin : excInitIn K C bmVE "ValueError.__new__" = true) (T : OexC K C) (hno : findIn K (.ref C) fld = some none)
    (hbody : body = [.Expr (.Call (.Attribute (.Call (.Name "super" p0) [] [] p1) "__init__" p2) [e] [] p3) p4, .Assign [.Attribute (.Name "self" q1) fld q2] (.Name x q3) q4])
    (hst : ∀ env, starEach [e] env = (false, eval e env) :: starEach [] env) (hsw : ∀ (env : Env), swapsWith (.Name x q3) (some (.Attribute (.Name "self" q1) fld q2)) q4.line env = pure false)
    (hsw2 : ∀ (env : Env), swapsWith (.Call (.Attribute (.Call (.Name "super" p0) [] [] p1) "__init__" p2) [e] [] p3) none p4.line env = pure false)
    (hev : ∀ env : Env, ∃ pl : Sem Bool, eval (.Call (.Attribute (.Call (.Name "super" p0) [] [] p1) "__init__" p2) [e] [] p3) env = (do
      let ov ← attributeBase (.Call (.Name "super" p0) [] [] p1) "__init__" env (eval (.Call (.Name "super" p0) [] [] p1) env)
      standAt p2.atName
      let (f, first) ← (holding [ov] (getMethod ov "__init__" pl))
      callWith p3 f first (backTo p3 (starEach [e] env)) []))
    (hd1 : (x == ("__debug__" : Str)) = false) (hd2 : (x == ("__classdict__" : Str)) = false)
    (he : ∀ (X : Cx), X.N = [sfS, x] → X.env.scope = scope → X.K = K → Room k X.A → PE X e (tA K)) :
    FnOk P w K mg base CX0 (k + 1) f (ksFn name qual params body scope dV kV doc pm an (.ref cda) ct cc) [sfS, x] (spE K C fld) := by
  refine ⟨fun vs H Q E ⟨a, v, e, _⟩ => by rw [e]; rfl, fun A outer s H args us vs' Q E room e0 bnd rv want => ?_⟩
  obtain ⟨a, v, rfl, ha, hv, q⟩ := want
  obtain ⟨u0, u, rfl, r0, ru⟩ := vals2 rv
  obtain rfl : u0 = Value.ref a := r0
  have KX : K.In s.heap := e0.mod.kin.keeps fun b o q => (e0.bs b o q).1
  have lim : s.heap.NoLimit := e0.mod.nolimit.keeps fun b o q => (e0.bs b o q).1
  have nx : (x == ("self" : Str)) = false := by simpa using hxs
  have ns : (("self" : Str) == x) = false := by simpa using fun z => hxs z.symm
  refine ks_codeAny_call_defAt (fd := ksFn name qual params body scope dV kV doc pm an (.ref cda) ct cc) (body := body) (binds := [sfS, x].zip [.ref a, u]) room.depth (KX _ _ look) rfl lim (codeRec_of KX code) rfl bnd hnc (fun y hy => ?_) (fun h₀ hns kp => ?_) hco hgen hk
  · have hy : y ∈ [(("self" : Str), Value.ref a), (x, u)] := hy
    simp at hy
    rcases hy with z | z <;> subst z
    · exact hself
    · exact hx
  have bx : ([sfS, x].zip [Value.ref a, u]).reverse = [(x, u), (sfS, .ref a)] := rfl
  have mself : (([sfS, x].zip [Value.ref a, u]).reverse).lookup ("self" : Str) = some (.ref a) := by rw [bx, List.lookup_cons, ns]; rfl
  have mx : (([sfS, x].zip [Value.ref a, u]).reverse).lookup x = some u := by rw [bx, List.lookup_cons_self]
  have J := inv_startX (N := [sfS, x]) (qual := qual) (f := f) (cd := .ref cda) (σ := [some (.ref a), some v]) (t' := s.toks + ([sfS, x].zip [Value.ref a, u]).length) hk e0 room.hd hcell hfr hnc hns kp (fun i y z h1 h2 => ?_) rfl
  · have envE : callEnv (ksFn name qual params body scope dV kV doc pm an (.ref cda) ct cc) s.heap.objs.size f = ksEnv qual scope s.heap.objs.size f (.ref cda) cc := rfl
    rw [envE]
    refine ks_wpAt_mono (Q := fun fl s' => ∃ G, Inv (cxX P w K mg base [sfS, x] qual scope f (.ref cda) cc A outer s H) [] [some (.ref a), some v] G s' ∧ fl = .next ∧ Q .non G) (E := fun _ _ => False) ?_ (fun fl s' hz => ?_) (fun _ _ z => z.elim)
    · subst hbody
      have KX0 : K.In h₀ := KX.keeps kp
      have hk' : (ksEnv qual scope s.heap.objs.size f (.ref cda) cc).scope.kind = .function := hk
      obtain ⟨mb, hb1, hb2⟩ := J.mod.blt
      obtain ⟨oD, hD1, hD2⟩ : ∃ oD, h₀.get? C = some oD ∧ oD.data = .cls cdD := by
        have hD := hD
        unfold clsIn at hD
        split at hD
        · rename_i c d cd' sl ho
          cases hD
          exact ⟨_, KX0 _ _ ho, rfl⟩
        · cases hD
      obtain ⟨t1, hoe⟩ := exo_at J.hok ha
      refine ks_wpAt_execs_cons (ks_wpAt_Expr_any ?_ J.quiet (hsw2 _))
      obtain ⟨pl, epl⟩ := hev (ksEnv qual scope s.heap.objs.size f (.ref cda) cc)
      refine ks_wpAt_MethodCall (pl := pl) ?_ epl
      refine ks_wpAt_super_base (env := ksEnv qual scope s.heap.objs.size f (.ref cda) cc) hks hkc (by decide) rfl (KX0 _ _ look) rfl hp rfl (KX0 _ _ hcode) rfl hvs hfile htop ?_
      refine ks_loadName_global hk' hks (loadGlobal_builtin (env := ksEnv qual scope s.heap.objs.size f (.ref cda) cc) (J.mod.glob.keeps J.bk) hsuper (hb1.keeps J.bk) ((hb2 _ (by decide)).trans PyProof.Rows.Boot.super) ⟨rfl, ?_⟩)
      refine wpAny_loadName_free hk' hkc rfl ⟨_, KX0 _ _ hcell, rfl⟩ ?_
      refine wpAny_loadName_local hk' (by rw [har]; exact hself) hns (by rw [har]; exact mself) ?_
      (refine ks_wpAny_isType_cls hD1 hD2 ⟨rfl, ?_⟩)
      refine ks_wpAny_call_super hD1 hD2 hoe rfl (fun c z => by cases z) (looks_mroIn KX0 hsub) fun h1 e1 k1 => ?_
      have KX1 : K.In h1 := KX0.keeps k1
      have I1 : InstAt h1 a _ C none := ⟨k1 _ _ hoe, rfl, rfl, trivial⟩
      have hf : alongIn K "__init__" ((cdD.mro.dropWhile (· != .ref C)).drop 1) = some (some (.builtin "ValueError.__init__")) := by
        unfold ks_superIn at hsup
        rw [hD] at hsup
        exact hsup
      refine kxs_getMethod kxs_ValueError (so := h₀.objs.size) (D := C) (x := a) (C := C) e1 (looks_opaque KX1 hop) (l₀ := cdD.mro) (fun A Q E s k q => wpAny_bind ((looks_clsIn KX1 hD) A _ E s k (wpAny_pure q))) rfl KX1 hf (I1.type.andThen (looks_subIn KX1 hVE)) (ks_ne KX1 I1 hD) (by decide) ?_
      have up2 : ∀ b o, h1.get? b = some o → (h1.push (kxs_mw "ValueError.__init__" a)).get? b = some o := fun b o z => Heap.get?_push_of_some _ z
      have hm : (h1.push (kxs_mw "ValueError.__init__" a)).get? h1.objs.size = some (kxs_mw "ValueError.__init__" a) := Heap.get?_push_at rfl rfl
      have J1 := J.kept (h' := h1) (t' := s.toks + (([sfS, x].zip [Value.ref a, u]).length)) k1
      have J2 := J1.kept (h' := h1.push (kxs_mw "ValueError.__init__" a)) (t' := s.toks + (([sfS, x].zip [Value.ref a, u]).length) + 1) up2
      have J3 : Inv (cxX P w K mg base [sfS, x] qual scope f (.ref cda) cc A outer s H) [(h1.objs.size, kxs_mw "ValueError.__init__" a)] [some (.ref a), some v] H _ := J2.pins_of fun p hp => by
        simp only [List.mem_singleton] at hp
        subst hp
        exact ⟨hm, J1.hok.fresh (Nat.le_refl _), Nat.ne_of_gt J1.lt, J1.nofs (Nat.le_refl _), fun v z => by cases z⟩
      show wpAny _ _ (callWith p3 (.ref h1.objs.size) [] (backTo p3 (starEach [e] (ksEnv qual scope s.heap.objs.size f (.ref cda) cc))) []) _ _ _
      have PE1 := he (cxX P w K mg base [sfS, x] qual scope f (.ref cda) cc A outer s H) rfl rfl rfl (room.deeper _)
      have PA1 := pa_cons PE1 pa_nil (hs := hst _)
      have run := PA1.run p3 _ _ _ _ (fun vs H1 => H1 = H ∧ ∃ m : Str, vs = [.str m]) J3 ⟨v, rfl, hv, fun m _ => ⟨rfl, m, rfl⟩⟩
      rw [hst] at run ⊢
      refine kxs_callWith (i := "ValueError.__init__") (x := a) rfl (evalArgs_plain (wpAny_mono run (fun us s1 ⟨vs, H1, I3, r3, eH, m, ev⟩ => ?_) fun _ _ z => z))
      subst eH ev
      have hp3 := I3.pin (h1.objs.size, kxs_mw "ValueError.__init__" a) (by simp)
      refine ⟨hp3.1, ?_⟩
      obtain ⟨t2, ho2⟩ := exo_at I3.hok ha
      obtain ⟨hp', g', d', tk', os'⟩ := s1
      have hlen : us.length ≤ sizeLine := by
        rw [← Paired.length r3, sizeLine_eq]
        simp
      refine mw_call (K := K) (x := a) (C := C) I3.kIn hin hp3.1 ho2 hlen fun h4 t4 k4 hx4 => ?_
      have J4 := I3.write (t' := tk') (x := a) (e := a) (o := exo a C none) (h' := h4) (by rw [ha]; exact True.intro) (.inl rfl) k4 ⟨_, hx4⟩ (exo_ok hx4)
      have eu : upd H1 a (exo a C none) = H1 := by
        funext b
        by_cases hb : b = a
        · rw [hb, upd_same, ha]
        · rw [upd_ne hb]
      rw [eu] at J4
      have J5 := J4.pins_of (pins' := []) (by simp)
      have PS2 : PS (cxX P w K mg base [sfS, x] qual scope f (.ref cda) cc A outer s H1) _ _ := ps_ost (f := fld) (p' := q2) (pos := q4) (pv 0 (x := sfS) (pos := q1) rfl (.inl hself)) (pv 1 (x := x) (pos := q3) rfl (.inl hx) hd1 hd2) (hsw _)
      refine wpAt_of_wpAny (wpAny_mono ((pss_one PS2).run [] _ _ _ { nx := fun σ' G => σ' = [some (.ref a), some v] ∧ Q .non G, rt := fun _ _ => False } J5 ?_) (fun fl s' hz => ?_) fun _ _ z => z)
      · exact ⟨v, rfl, .ref a, rfl, a, C, rfl, T, hno, .inl ⟨ha, fun dx hn hne => ⟨rfl, q dx hn hne⟩⟩⟩
      · cases fl with
        | next =>
          obtain ⟨σ', G, I6, rfl, q6⟩ := hz
          exact ⟨G, I6, rfl, q6⟩
        | ret z =>
          obtain ⟨_, _, _, _, _, z⟩ := hz
          exact z.elim
        | brk =>
          obtain ⟨_, _, _, z⟩ := hz
          exact z.elim
        | cont =>
          obtain ⟨_, _, _, z⟩ := hz
          exact z.elim
    · obtain ⟨G, I2, rfl, q2⟩ := hz
      exact ⟨.non, G, I2.os, I2.bare, I2.base, I2.hok, rfl, q2⟩
  · match i, h1, h2 with
    | 0, h1, h2 =>
      cases h1; cases h2
      exact ⟨_, rfl, mself, hself⟩
    | 1, h1, h2 =>
      cases h1; cases h2
      exact ⟨_, ru, mx, hx⟩
end
section
variable {X : Cx} {scope : Scope} {x a b : Str} {j1 j2 : Nat} {r1 r2 r3 r4 r5 : Pos} {k : Nat}
theorem he_var (hN : X.N = [sfS, x]) (hS : X.env.scope = scope) (hx : scope.names.lookup x = some .local) (hd1 : (x == ("__debug__" : Str)) = false) (hd2 : (x == ("__classdict__" : Str)) = false) : PE X (.Name x r2) (tVar 1) :=
  pv 1 (by rw [hN]; rfl) (.inl (by rw [hS]; exact hx)) hd1 hd2
theorem he_3 (hN : X.N = [sfS, x]) (hS : X.env.scope = scope) (hx : scope.names.lookup x = some .local) (hd1 : (x == ("__debug__" : Str)) = false) (hd2 : (x == ("__classdict__" : Str)) = false) (hr : Room k X.A) (ha : a.length ≤ 400) (hb : b.length ≤ 400) :
    PE X (.JoinedStr [.Constant (.str a) j1 r1, .FormattedValue (.Name x r2) (-1) none r3, .Constant (.str b) j2 r4] r5) (tA X.K) := by
  refine (pe_joined (.cons pe_str (.cons (pe_fmtA hr (he_var hN hS hx hd1 hd2)) (.cons pe_str .nil)))).imp fun σ H Q ⟨v, e, f, q⟩ => ?_
  have z : Str.empty.length = 0 := rfl
  refine ⟨a, rfl, by rw [strLen_append, sizeLine_eq]; omega, v, e, f, fun m hm => ⟨m, rfl, ?_, b, rfl, ?_, q _ ?_⟩⟩
  · rw [strLen_append, strLen_append, sizeLine_eq]; omega
  · rw [strLen_append, strLen_append, strLen_append, sizeLine_eq]; omega
  · rw [strLen_append, strLen_append, strLen_append]; omega
end
theorem free1 {sc : Scope} (h : sc.names.all (fun p => (p.2 != .free) || (p.1 == ("__class__" : Str))) = true) : ∀ y, sc.names.lookup y = some .free → y = "__class__" := fun y hy => by
  have := List.all_eq_true.mp h _ (PySem.mem_of_lookup hy)
  simp at this
  exact this
end EX
end
section
namespace OW
open PySem PySem.Spec PyProof.Rows L2
/-! list(o), where o's __iter__ gives the iterator of a tuple -/
section
variable {X : Cx} {pins : List (Addr × Obj)} {σ : L2.St} {H : Hp} {A1 : Around} {t it q : Addr} {zs : List V} {Rs : Result → Shared → Prop}
end
/-- the list of an own object's tuple -/
def rOwnT (K : PySem.W.Frag) (C : Addr) (sp : Nat → Sp) : List V → Hp → VK → Prop := fun xs H Q => ∃ a dx fs, xs = [.ref a] ∧ H a = some (.ins C dx fs) ∧
  ∀ q n, H q = none → sp n [.ref a] (upd H q (.lst [])) (fun v G => ∃ it t zs, v = .ref it ∧ n ≤ it ∧ upd H q (.lst []) it = none ∧ G = upd (upd H q (.lst [])) it (TIt t it) ∧ (∀ acc, SqT K (upd H q (.lst acc)) t zs) ∧ Q (.ref q) (upd H q (.lst zs))) E0
section
variable {X : Cx} {k : Nat} {C f : Addr} {fd : FuncData} {ps : List Str} {sp : Nat → Sp}
end
end OW
end
section
set_option maxHeartbeats 3200000
namespace OW
open PySem PySem.Spec PyProof.Rows L2
/-! set(xs), xs a list of ints; sorted(set(xs)) -/
section
variable {w : World} {P : Program} {A : Around} {s : Shared} {E : Value → Shared → Prop}
/-- the set object before anything is in it -/
abbrev newSet (w : World) : Obj := { cls := .type "set", dict := none, data := .set #[] 0 (.fresh 0 0 (!w.params.followText "set-order")) }
end
/-- set(xs): where it stands, what is in it -/
def PSt (X : Cx) (e : Expr) (t : L2.St → Hp → (List Int → Hp → Prop) → Prop) : Prop := ∀ (pins : List (Addr × Obj)) (s : Shared) (σ : L2.St) (H : Hp) (Q : List Int → Hp → Prop), Inv X pins σ H s → t σ H Q →
  wpAny (model X.prog X.w) X.A (eval e X.env) (fun v s' => ∃ (a : Addr) (ns : List Int) (n : Nat) (H1 : Hp), v = .ref a ∧ SetR X.w s'.heap a (fun j => decide (j ∈ ns)) n ∧ n ≤ ns.length ∧ Inv X pins σ H1 s' ∧ Q ns H1) X.xe s
def tSt (K : PySem.W.Frag) (ta : TE) : L2.St → Hp → (List Int → Hp → Prop) → Prop := fun σ H Q => ta σ H fun x H1 => ∃ (p : Addr) (ns : List Int), x = .ref p ∧ SqL K H1 p (ns.map V.int) ∧ ns.length ≤ 60 ∧ Q ns H1
section
variable {X : Cx} {e : Expr} {ta : TE} {p pos : Pos}
def tSrtSt (te : L2.St → Hp → (List Int → Hp → Prop) → Prop) : TE := fun σ H Q => te σ H fun ns H1 => ns.length ≤ 60 ∧ ∀ q (ms : List Int), H1 q = none → ms.Pairwise (· < ·) → (∀ k, k ∈ ms ↔ k ∈ ns) → Q (.ref q) (upd H1 q (.lst (ms.map V.int)))
end
end OW
end
section
namespace OW
open PySem PySem.Spec PyProof.Rows L2
/-! o(..), o an own object with __call__ -/
section
variable {M : Model} {A : Around} {s : Shared} {env : Env} {E : Value → Shared → Prop}
theorem callWith_ins {pos : Pos} {a : Addr} {ox : Obj} {e : Expr} {es : List Expr} {Q : Value → Shared → Prop} (hd : ox.data = .plain)
    (h : wpAny M A (spliced (backTo pos (starEach (e :: es) env))) (fun vs s₁ => s₁.heap.get? a = some ox ∧ wpAny M A (call (.ref a) vs) Q E s₁) E s)
    (he : starEach (e :: es) env = (false, eval e env) :: starEach es env) (hpl : (backTo pos (starEach es env)).any (·.1) = false) :
    wpAny M A (callWith pos (.ref a) [] (backTo pos (starEach (e :: es) env)) []) Q E s := by
  rw [he] at h ⊢
  have none_starred : ((backTo pos ((false, eval e env) :: starEach es env)).any (·.1) || ([] : List (Option Str × Sem Value)).any (·.1.isNone)) = false := by
    show ((false || (backTo pos (starEach es env)).any (·.1)) || false) = false
    rw [hpl]
    rfl
  have words : wpAny M A (evalArgs (.ref a) true (backTo pos ((false, eval e env) :: starEach es env)) []) (fun r s₁ => s₁.heap.get? a = some ox ∧ wpAny M A (call (.ref a) ([] ++ r.pos) r.kw) Q E s₁) E s := Calls.evalArgs_plain h
  unfold callWith
  refine wpAny_bind (wpAny_holding (wpAny_mono words (fun r s₁ z => wpAny_bind (wpAny_standAt ?_)) fun _ _ y => y))
  simp only [none_starred]
  have asked : PySem.W.Looks M s₁.heap (keeperOf (.ref a)) .caller := by
    refine (PySem.W.Looks.ld (part := none) z.1).andThen ?_
    simp only [hd]
    exact .now
  refine wpAny_bind (asked.here ?_)
  exact wpAny_bind (wpAny_mono (wpAny_operateT z.2) (fun r s₂ q => wpAny_bind (wpAny_holding (wpAny_point (wpAny_pure q)))) fun _ _ y => y)
end
def tCO (C : Addr) (sp : Sp) (E : L2.St → XK) (ta : TE) (t : TA) : TE := fun σ H Q => ta σ H fun x H1 => ∃ a dx fs, x = .ref a ∧ H1 a = some (.ins C dx fs) ∧ t σ H1 fun vs H2 => H2 a = some (.ins C dx fs) ∧ sp (.ref a :: vs) H2 Q (E σ)
theorem pe_callO {X : Cx} {CX : CXT} {k : Nat} {C f : Addr} {fd : FuncData} {ps : List Str} {sp : Sp} {E : L2.St → XK} {x : Str} {p pos : Pos} {e : Expr} {es : List Expr} {ta : TE} {t : TA} (he : PE X (.Name x p) ta) (hm : Meth X.K C "__call__" f) (hfn : PySem.W.fnIn X.K f = true)
    (Fn : FnOk X.prog X.w X.K X.mg X.base CX k f fd ps sp) (hr : Room k X.A) (hb : Binds X.K fd ps []) (hx : ∀ σ, PassesAt CX X σ (E σ)) (ha : PA X (e :: es) t)
    (hst : starEach (e :: es) X.env = (false, eval e X.env) :: starEach es X.env := by rfl) (hpl : (backTo pos (starEach es X.env)).any (·.1) = false := by rfl) : PE X (.Call (.Name x p) (e :: es) [] pos) (tCO C sp E ta t) := by
  (refine ⟨fun pins s σ H Q I h => ?_⟩)
  refine wpAny_Call_Name_kw (thn (he.run pins s σ H _ I h) fun u s1 ⟨v, H1, I1, rv, a, dx, fs, ev, ea, q⟩ => ?_)
  subst ev
  obtain rfl : u = Value.ref a := rv
  refine callWith_ins (ox := PySem.W.instObj C dx) rfl (thn (ha.run pos pins s1 σ H1 _ I1 q) fun us s2 ⟨vs, H2, I2, r, ea2, q2⟩ => ?_) hst hpl
  obtain ⟨_, O, _⟩ := ins_get I2.hok ea2
  obtain ⟨od, J, _⟩ := O.look
  refine ⟨J.at_, wpAny_call (PySem.W.kco_code I2.kIn J rfl hm.at_ hm.fn hfn ?_)⟩
  have len := Fn.len _ _ _ _ q2
  have rr : Vals (V.ref a :: vs) (Value.ref a :: us) := .cons rfl r
  have bnd := hb s2 (.ref a :: us) I2.kIn (by rw [List.append_nil, ← rr.length]; exact len)
  rw [List.append_nil] at bnd
  refine codeAny_mono (Fn.run X.A X.stack s2 H2 ⟨.ref a :: us, []⟩ (.ref a :: us) (.ref a :: vs) Q (E σ) hr I2.env0 bnd rr q2) fun z s3 y => ?_
  cases z with
  | error e => exact hx σ pins H2 s2 e s3 I2 y
  | ok fl => cases fl with
    | ret u => exact I2.after y
    | _ => exact y.elim
end OW
end
section
/-! zip of two texts -/
namespace OW
open PySem PySem.Spec PyProof.Rows L2
/-- two texts, sign by sign, in new pairs -/
def ItzS (a b : Str) : It :=
  ⟨fun i _ => i < a.cps.size ∧ i < b.cps.size, fun i H v H' => ∃ T c d, v = .ref T ∧ H T = none ∧ H' = upd H T (.tup [.str ⟨#[c]⟩, .str ⟨#[d]⟩]) ∧ a.cps[i]? = some c ∧ b.cps[i]? = some d,
    fun i _ => a.cps.size ≤ i ∨ b.cps.size ≤ i⟩
theorem turn_zipS {P : Program} {w : World} {K : PySem.W.Frag} {elts : List Expr} {kk : Nat} {tpos : Pos} {a b : Str} {t1 t2 : Tok} {z TI TO i1 i2 : Addr} (D : ZipSep2 z TI TO i1 i2 [i1] [i2]) :
    Turn P w K (.Tuple elts kk tpos) (ItzS a b) [z, TI, TO, i1, i2] z (fun i h => (i ≤ a.cps.size ∧ i ≤ b.cps.size) ∧ IsZip h z TI TO .none ∧ IsTupOf2 h TI (.ref i1) (.ref i2) ∧ (∃ x y, IsTupOf2 h TO x y) ∧ h.IsStrIter i1 (strIterType a) a t1 i ∧ h.IsStrIter i2 (strIterType b) b t2 i) where
  mem := by simp
  obj := fun i h st c hc => by
    obtain ⟨_, hz, hTI, ⟨x, y, hTO⟩, ⟨o1, e1, _, d1⟩, ⟨o2, e2, _, d2⟩⟩ := st
    (have e' : c = z ∨ c = TI ∨ c = TO ∨ c = i1 ∨ c = i2 := by simpa using hc)
    (rcases e' with q | q | q | q | q)
    · (rw [q]; exact ⟨_, hz, fun v q => nomatch q⟩)
    · (rw [q]; exact ⟨_, hTI, fun v q => nomatch q⟩)
    · (rw [q]; exact ⟨_, hTO, fun v q => nomatch q⟩)
    · (rw [q]; exact ⟨o1, e1, fun v q => by rw [d1] at q; cases q⟩)
    · (rw [q]; exact ⟨o2, e2, fun v q => by rw [d2] at q; cases q⟩)
  keep := fun i h h' st k => by
    obtain ⟨hl, hz, hTI, ⟨x, y, hTO⟩, ⟨o1, e1, r1⟩, ⟨o2, e2, r2⟩⟩ := st
    exact ⟨hl, k z (by simp) _ hz, k TI (by simp) _ hTI, ⟨x, y, k TO (by simp) _ hTO⟩, ⟨o1, k i1 (by simp) _ e1, r1⟩, ⟨o2, k i2 (by simp) _ e2, r2⟩⟩
  item := by
    (intro X hP hw hK hc i pins s σ H E I hf st hg)
    subst hP hw hK
    obtain ⟨hl, hz, hTI, ⟨x0, y0, hTO⟩, h1, h2⟩ := st
    (have hzl : z < s.heap.objs.size := Heap.lt_size hz)
    have D1 := Draws.text (prog := X.prog) (w := X.w) (A := X.A.in1) (I.ok.hd hc) i1 a t1
    have D2 := Draws.text (prog := X.prog) (w := X.w) (A := X.A.in1) (I.ok.hd hc) i2 b t2
    refine wpAny_pyNext_zipD2_item D D1 D2 hz hTI hTO h1 h2 hg.1 hg.2 fun v1 v2 h' tk p1 p2 z' TO' h1' h2' hT hsz hk => ?_
    obtain ⟨c, u1, hcx, rfl⟩ := p1
    obtain ⟨d, u2, hdx, rfl⟩ := p2
    refine ⟨_, rfl, wpAny_letOwnedTupleGo_zip (s := { s with heap := h', toks := tk }) z' fun h'' z'' sb => ?_⟩
    have hT2 : h''.get? s.heap.objs.size = some { cls := .type "tuple", data := .seq #[.str ⟨#[c]⟩ u1, .str ⟨#[d]⟩ u2] } := (sb.2 _ (Nat.ne_of_gt hzl)).trans hT
    have new : ObjOk X.prog X.w (upd H s.heap.objs.size (.tup [.str ⟨#[c]⟩, .str ⟨#[d]⟩])) h'' s.heap.objs.size (.tup [.str ⟨#[c]⟩, .str ⟨#[d]⟩]) :=
      ⟨by show 2 ≤ sizeLine; decide, [.str ⟨#[c]⟩ u1, .str ⟨#[d]⟩ u2], .cons ⟨u1, rfl⟩ (.cons ⟨u2, rfl⟩ .nil), ⟨_, hT2, rfl, _, rfl⟩⟩
    have I1 : Inv X pins σ (upd H s.heap.objs.size (.tup [.str ⟨#[c]⟩, .str ⟨#[d]⟩])) { s with heap := h'', toks := tk } :=
      I.turnedNew (t' := tk) (ch := [z, TI, TO, i1, i2]) (fun c o hb q => (sb.2 c (fun q' => hb (by simp [q']))).trans (hk c o (fun q' => hb (by simp [q'])) (fun q' => hb (by simp [q'])) (fun q' => hb (by simp [q'])) (fun q' => hb (by simp [q'])) q)) hf (Nat.le_refl _) new
    refine ⟨.ref s.heap.objs.size, _, I1, rfl, ⟨_, c, d, rfl, I.hok.fresh (Nat.le_refl _), rfl, hcx, hdx⟩, ⟨⟨hg.1, hg.2⟩, z'', ?_, ⟨_, _, (sb.2 _ D.TOz).trans TO'⟩, ?_, ?_⟩, fun b hcm => ?_⟩
    · (exact (sb.2 _ D.TIz).trans (hk _ _ D.TIz D.TITO D.TIi1 D.TIi2 hTI))
    · obtain ⟨o, e, r⟩ := h1'; exact ⟨o, (sb.2 _ D.zi1.symm).trans e, r⟩
    · obtain ⟨o, e, r⟩ := h2'; exact ⟨o, (sb.2 _ D.zi2.symm).trans e, r⟩
    · have hlt : b < s.heap.objs.size := by
        have e' : b = z ∨ b = TI ∨ b = TO ∨ b = i1 ∨ b = i2 := by simpa using hcm
        (rcases e' with q | q | q | q | q)
        · rw [q]; exact hzl
        · (rw [q]; exact Heap.lt_size hTI)
        · (rw [q]; exact Heap.lt_size hTO)
        · (rw [q]; obtain ⟨_, e1, _⟩ := h1; exact Heap.lt_size e1)
        · (rw [q]; obtain ⟨_, e2, _⟩ := h2; exact Heap.lt_size e2)
      (rw [upd_ne (Nat.ne_of_lt hlt)])
      exact (hf b hcm).1
  done := by
    (intro X hP hw hK hc i pins s σ H E I hf st hg)
    subst hP hw hK
    obtain ⟨hl, hz, hTI, ⟨x0, y0, hTO⟩, h1, h2⟩ := st
    have D1 := Draws.text (prog := X.prog) (w := X.w) (A := X.A.in1) (I.ok.hd hc) i1 a t1
    have D2 := Draws.text (prog := X.prog) (w := X.w) (A := X.A.in1) (I.ok.hd hc) i2 b t2
    have he : i = a.cps.size ∨ i = b.cps.size := by
      have hg : a.cps.size ≤ i ∨ b.cps.size ≤ i := hg
      omega
    exact wpAny_pyNext_zipD2_end D D1 D2 hz hTI hTO h1 h2 hl.1 hl.2 he fun h' tk hk => ⟨rfl, I.turnedL (t' := tk) (ch := [z, TI, TO, i1, i2]) (fun c o hb q =>
      hk c o (fun p' => hb (by simp [p'])) (fun p' => hb (by simp [p'])) (fun p' => hb (by simp [p'])) (fun p' => hb (by simp [p'])) q) hf⟩
  self := fun A i s Q E st h => wpAny_pyIter_zip st.2.1 h
def iZipS (ta : TA) : TI := fun σ H R => ta σ H fun vs H1 => ∃ a b, vs = [.str a, .str b] ∧ R (ItzS a b) H1
theorem pi_zipS {X : Cx} {e e2 : Expr} {ta : TA} {p pos tpos : Pos} {elts : List Expr} {kk : Nat} (hg : Gl X "zip") (hm : X.mg "zip" = none) (ha : PA X [e, e2] ta)
    (hs : starEach [e, e2] X.env = (false, eval e X.env) :: starEach [e2] X.env := by rfl) (hpl : (backTo pos (starEach [e2] X.env)).any (·.1) = false := by rfl) :     PI X (.Tuple elts kk tpos) (.Call (.Name "zip" p) [e, e2] [] pos) (iZipS ta) := by
  (refine ⟨fun pins s σ H R I h => ?_⟩)
  (refine Call_ (ld_blt I hg hm PyProof.Rows.boot_zip (PyProof.Rows.callWith_type1 (thn (ha.run pos pins s σ H _ I h) fun us s1 ⟨vs, H1, I1, r1, q1⟩ => ?_) hs hpl)))
  obtain ⟨a, b, ex, q⟩ := q1
  subst ex
  cases r1 with
  | cons r rr =>
    cases rr with
    | cons r' rr =>
      cases rr
      obtain ⟨t1, rfl⟩ := r
      obtain ⟨t2, rfl⟩ := r'
      have fresh9 : ∀ c, c ∈ [s1.heap.objs.size + 4, s1.heap.objs.size + 2, s1.heap.objs.size + 3, s1.heap.objs.size, s1.heap.objs.size + 1] → FpOk X pins H1 c := fun c hcm => by
        (have e' : c = s1.heap.objs.size + 4 ∨ c = s1.heap.objs.size + 2 ∨ c = s1.heap.objs.size + 3 ∨ c = s1.heap.objs.size ∨ c = s1.heap.objs.size + 1 := by simpa using hcm)
        have hle : s1.heap.objs.size ≤ c := by omega
        (exact I1.fpOk hle (I1.hok.fresh hle))
      refine zip_begins2 (begins_text a t1) (begins_text b t2) trivial trivial fun h' hz hTI hTO h1 h2 hsz hk => wpAny_pyIter_zip hz ?_
      (have I2 : Inv X pins σ H1 { s1 with heap := h' } := I1.kept (t' := s1.toks) hk)
      have D : ZipSep2 (s1.heap.objs.size + 4) (s1.heap.objs.size + 2) (s1.heap.objs.size + 3) s1.heap.objs.size (s1.heap.objs.size + 1) [s1.heap.objs.size] [s1.heap.objs.size + 1] := by
        constructor <;> first | omega | simp | (simp; omega)
      exact ⟨s1.heap.objs.size + 4, [s1.heap.objs.size + 4, s1.heap.objs.size + 2, s1.heap.objs.size + 3, s1.heap.objs.size, s1.heap.objs.size + 1], _, _, H1, rfl, I2, turn_zipS (t1 := t1) (t2 := t2) D, ⟨⟨Nat.zero_le _, Nat.zero_le _⟩, hz, hTI, ⟨_, _, hTO⟩, ⟨_, h1, rfl, rfl⟩, ⟨_, h2, rfl, rfl⟩⟩, fresh9, q⟩
end OW
namespace PL
open PySem PySem.Spec PyProof.Rows L2
variable {K : PySem.W.Frag} {ct : CT} {W : WX} {F : Hp} {X : Cx}
theorem chars_at {z : Str} {i : Nat} {d : D} (e : (chars z)[i]? = some d) : ∃ c, z.cps[i]? = some c ∧ d = .str ⟨#[c]⟩ := by
  unfold chars at e
  rw [List.getElem?_map, Array.getElem?_toList] at e
  obtain ⟨c, e1, rfl⟩ := Option.map_eq_some_iff.mp e
  exact ⟨c, e1, rfl⟩
theorem it_zipS {a b : Str} : ItOk K ct.ad F (zipD (chars a) (chars b)) (OW.ItzS a b) := by
  intro F1 H1 s1 s2 i
  refine ⟨fun x e => ?_, fun l => ?_⟩
  · obtain ⟨d, d', ed, ed', rfl⟩ := zipD_at e
    obtain ⟨c, e1, rfl⟩ := chars_at ed
    obtain ⟨c', e2, rfl⟩ := chars_at ed'
    refine ⟨⟨(Array.getElem?_eq_some_iff.mp e1).1, (Array.getElem?_eq_some_iff.mp e2).1⟩, fun u H2 y => ?_⟩
    obtain ⟨T, z, z', rfl, hT, rfl, hz, hz'⟩ := y
    rw [e1] at hz; rw [e2] at hz'
    cases hz
    cases hz'
    obtain ⟨al, up⟩ := al_new (o := .tup [.str ⟨#[c]⟩, .str ⟨#[c']⟩]) s2 hT
    exact ⟨_, al, Rp.tup (SqT.of upd_same) (.cons (.str _) (.cons (.str _) .nil))⟩
  · show a.cps.size ≤ i ∨ b.cps.size ≤ i
    unfold zipD chars at l
    simp only [List.length_map, List.length_zip, Array.length_toList] at l
    omega
def itZS (a b : Ev) : M (List D) := bnd (dat a) fun x => bnd (dat b) fun y => match x, y with
  | .str s, .str t => pur (zipD (chars s) (chars t))
  | _, _ => fai
theorem pi_zS {e e2 : Expr} {elts : List Expr} {kk : Nat} {p pos tpos : Pos} {m n : Ev} (eK : X.K = K) (hg : Gl X "zip") (hm : X.mg "zip" = none) (he : PE X e (TP K ct W m)) (he2 : PE X e2 (TP K ct W n))
    (hs : starEach [e, e2] X.env = [(false, eval e X.env), (false, eval e2 X.env)] := by rfl) (hs2 : starEach [e2] X.env = [(false, eval e2 X.env)] := by rfl) :
    PI X (.Tuple elts kk tpos) (.Call (.Name "zip" p) [e, e2] [] pos) (TIt K ct W (itZS m n)) := by
  subst eK
  refine (OW.pi_zipS hg hm (pa_cons he (pa_cons he2 pa_nil (by rw [hs2]; rfl)) (by rw [hs, hs2])) (by rw [hs, hs2]) (by rw [hs2]; rfl)).imp fun σ H R h => ?_
  obtain ⟨fr, F, ρ, S, h⟩ := h
  refine Tat.dat h S fun F1 H1 ρ1 v d s1 S1 r1 h => ?_
  refine Tat.dat h S1 fun F2 H2 ρ2 u d2 s2 S2 r2 h => ?_
  have r1 := r1.mono s2
  have sd : ∃ s, d = .str s := by
    cases d with
    | str s => exact ⟨s, rfl⟩
    | _ => obtain ⟨_, _, z, _⟩ := h; cases z
  obtain ⟨s, rfl⟩ := sd
  have st : ∃ t, d2 = .str t := by
    cases d2 with
    | str t => exact ⟨t, rfl⟩
    | _ => obtain ⟨_, _, z, _⟩ := h; cases z
  obtain ⟨t, rfl⟩ := st
  cases r1
  cases r2
  have h : Tat X.K ct (RI X.K ct.ad) W fr F2 ρ2 (pur (zipD (chars s) (chars t))) σ R := h
  exact ⟨s, t, rfl, h.ok _ F2 H2 (Same.refl _) S2 it_zipS⟩
end PL
end
section
/-! exceptions with a value of their own -/
namespace PL
open PySem PySem.Spec PyProof.Rows L2
variable {K : PySem.W.Frag} {ad : Cl → Addr} {ct : CT}
variable {fr : Fr} {F F' H H' : Hp} {σ : L2.St} {ρ : List Sl} {W : WX}
/-- a value that may be told in a text -/
def fmtD : D → Bool
  | .str y => decide (y.length ≤ 3000)
  | .int k => decide (k.natAbs.log2 < 1920)
  | .tup xs => match D.ints xs with | some l => decide (l.length ≤ 4) && l.all fun i => decide (i.natAbs.log2 < 1920) | none => false
  | _ => false
theorem ints_of : ∀ {xs : List D} {l : List Int}, D.ints xs = some l → xs = l.map D.int
  | [], l, h => by cases h; rfl
  | x :: xs, l, h => by
    cases x <;> try (simp [D.ints] at h; done)
    rename_i i
    have h : (D.ints xs).map (i :: ·) = some l := h
    obtain ⟨a, e, rfl⟩ := map_some h
    rw [ints_of e]
    rfl
theorem fmtD_ok {d : D} {v : V} (h : fmtD d = true) (r : Rp K ct.ad F v d) (s : Same F H) : EX.FmtOk K v H := by
  cases d with
  | str y => cases r; exact .inl ⟨_, rfl, of_decide_eq_true h⟩
  | int i => cases r; exact .inr (.inl ⟨_, rfl, of_decide_eq_true h⟩)
  | tup xs =>
    have h : (match D.ints xs with | some l => decide (l.length ≤ 4) && l.all fun i => decide (i.natAbs.log2 < 1920) | none => false) = true := h
    cases e : D.ints xs with
    | none => (rw [e] at h; cases h)
    | some l =>
      rw [e] at h
      have h9 : (decide (l.length ≤ 4) && l.all fun i => decide (i.natAbs.log2 < 1920)) = true := h
      rw [Bool.and_eq_true, decide_eq_true_iff, List.all_eq_true] at h9
      have e := ints_of e
      subst e
      cases r with
      | tup ht hs =>
        have := hs.ints
        subst this
        exact .inr (.inr ⟨_, l, rfl, sameT s ht, h9.1, fun i hi => of_decide_eq_true (h9.2 i hi)⟩)
  | _ => cases h
def evRaiseP (c : Cl) (m : Ev) : M Fl := bnd (dat m) fun d => if fmtD d = true then (fun ρ => some (.er c (some d), ρ)) else fai
theorem s_raiseP {X : Cx} {x f x' : Str} {k : Nat} {fI : Addr} {fd : FuncData} {p pos pos' : Pos} {e : Expr} {fe : Ev} (c : Cl) (eK : X.K = K) (hc : X.calm = true) (tk : Takes X W) (Tx : OexC X.K (ct.ad c)) (iC : PySem.W.findIn X.K (.ref (ct.ad c)) "__init__" = some (some (.ref fI))) (tI : PySem.W.typeIn X.K (.ref fI) = some (.type "function"))
    (F1 : FnOk X.prog X.w X.K X.mg X.base CX0 k fI fd [EX.sfS, x'] (EX.spE X.K (ct.ad c) f)) (hfn : c.fn = [f]) (hr : Room (k + 1) X.A) (hb : Binds X.K fd [EX.sfS, x'] []) (gC : X.mg x = some (.ref (ct.ad c))) (hg : Gl X x)
    (he : PE X e (TP K ct W fe)) (hs : starEach [e] X.env = (false, eval e X.env) :: starEach [] X.env := by rfl) (hdb : (x == ("__debug__" : Str)) = false := by decide) : PS X (.Raise (some (.Call (.Name x p) [e] [] pos)) none pos') (TSt K ct W (evRaiseP c fe)) := by
  subst eK
  refine (ps_raise hc tk (pmk_oex Tx iC tI F1 hr hb .nil pass0 hg gC (pa_cons he pa_nil hs) hdb hs)).imp fun D σ H ⟨fr, F, ρ, S, h⟩ => ?_
  show T X.K ct (RV X.K ct.ad) W fe σ H _
  refine Sat.dat h S fun F1 H1 ρ1 v d s1 S1 r1 h => ?_
  refine ⟨by simp, fun a ha => ?_⟩
  obtain ⟨r, ρ', e0, q⟩ := h
  split at e0
  · rename_i hf
    cases e0
    have same1 : Same H1 (upd H1 a (exo a (ct.ad c) none)) := same_up ha
    refine ⟨a, v, rfl, upd_same, fmtD_ok hf r1 (S1.fh.trans same1), fun dx hn hne => ⟨rfl, dx, [(f, v)], upd_same, ?_, ?_, ?_⟩⟩
    · rw [upd_ne hne, upd_same]
    · rw [upd_ne hne] at hn
      exact hn
    · have hn1 : H1 dx = none := by rw [upd_ne hne] at hn; exact hn
      have eH : upd (del (upd (upd (upd H1 a (exo a (ct.ad c) none)) dx (exd dx [(f, v)])) a (exo a (ct.ad c) (some dx))) a) dx (.xd [(f, v)]) = upd H1 dx (.xd [(f, v)]) := by
        funext b
        by_cases h1 : b = dx
        · subst h1; rw [upd_same, upd_same]
        · rw [upd_ne h1, upd_ne h1]
          by_cases h2 : b = a
          · subst h2; rw [del_same, ha]
          · rw [del_ne h2, upd_ne h2, upd_ne h1, upd_ne h2]
      rw [eH]
      refine q σ (some dx) (upd F1 dx (.xd [(f, v)])) _ (same_up (S1.nn hn1)) (S1.newD hn1) ⟨dx, f, v, rfl, hfn, upd_same, r1.mono (same_up (S1.nn hn1))⟩
  · cases e0
/-! ### list(o) of an own object, list.clear -/
def gLstO (c : Cl) (i : Nat) : List D → Option CC
  | [.obj c' xs] => if c' = c then (match xs[i]? with | some (.tup ys) => some (.lst ys) | _ => none) else none
  | _ => none
def fClr : List D → List D → Option (D × List D) | _, [] => some (.non, []) | _, _ => none
/-! ### sorted(xs), xs a list of pairs of ints -/
def pD (k : Int × Int) : D := .tup [.int k.1, .int k.2]
def prs : List D → Option (List (Int × Int))
  | [] => some []
  | .tup [.int a, .int b] :: r => (prs r).map ((a, b) :: ·)
  | _ => none
/-- the order of pairs -/
def PLe (a b : Int × Int) : Prop := a.1 < b.1 ∨ (a.1 = b.1 ∧ a.2 ≤ b.2)
instance (a b : Int × Int) : Decidable (PLe a b) := by unfold PLe; infer_instance
def insP (k : Int × Int) : List (Int × Int) → List (Int × Int)
  | [] => [k]
  | x :: r => if PLe k x then k :: x :: r else x :: insP k r
def srtP : List (Int × Int) → List (Int × Int)
  | [] => []
  | k :: r => insP k (srtP r)
theorem Rps.at_ {us : List V} {ds : List D} (r : Rps K ad F us ds) : ∀ x ∈ us, ∃ d ∈ ds, Rp K ad F x d := by
  induction us generalizing ds with
  | nil => intro x hx; simp at hx
  | cons u us ih =>
    intro x hx
    cases r with
    | cons a t =>
      rcases List.mem_cons.mp hx with e | e
      · subst e; exact ⟨_, List.mem_cons_self, a⟩
      · obtain ⟨d, hd, q⟩ := ih t x e
        exact ⟨d, List.mem_cons_of_mem _ hd, q⟩
theorem Rps.back {us : List V} {ds : List D} (r : Rps K ad F us ds) : ∀ d ∈ ds, ∃ x ∈ us, Rp K ad F x d := by
  induction us generalizing ds with
  | nil => cases r; intro x hx; simp at hx
  | cons u us ih =>
    cases r with
    | cons a t =>
      intro d hd
      rcases List.mem_cons.mp hd with e | e
      · subst e; exact ⟨_, List.mem_cons_self, a⟩
      · obtain ⟨d, hd, q⟩ := ih t d e
        exact ⟨d, List.mem_cons_of_mem _ hd, q⟩
def unD : D → Int × Int | .tup [.int a, .int b] => (a, b) | _ => (0, 0)
def gSrtP : List D → Option CC
  | [.lst xs] => match prs xs with
    | some ks => if ks.length < 64 ∧ ∀ k ∈ ks, (0 ≤ k.1 ∧ k.1 < 1000) ∧ 0 ≤ k.2 ∧ k.2 < 1000 then some (.lst ((srtP ks).map pD)) else none
    | none => none
  | _ => none
/-! ### C.m(..), m a classmethod that raises -/
section
variable {X : Cx} {CX : CXT} {k : Nat} {f q : Addr} {fd : FuncData} {ps : List Str} {x m : Str} {p pos apos : Pos} {e o : Expr} {es : List Expr} {n : Nat} {G : Fn} {as : List AE} {mc : Value} {sp : Sp}
def tCMS (C : Addr) (sp : Sp) (E : L2.St → XK) (ta : TE) (t : TA) : TE := fun σ H Q => ta σ H fun x H1 => x = .ref C ∧ t σ H1 fun vs H2 => sp (.ref C :: vs) H2 Q (E σ)
def evCallCS (n : Nat) (G : Fn) (c : Cl) (as : List AE) : Ev := bnd (evAs as) fun ar => callG n G (.d (.cl c) :: ar)
end
/-! ### xs[e], xs a cell that e leaves as it is, though it may change others -/
def evIxL (j : Nat) (e : Ev) : Ev := bnd (isL j) fun _ => bnd (dat e) fun d => fun ρ => match d, ρ[j]? with
  | .int i, some (.cel _ (.lst xs)) => (match atI xs i with | some z => some (.ok (.d z), ρ) | none => none)
  | _, _ => none
/-! ### list(range(a, b)), sorted(set(xs)) -/
def evLstRg (fa fb : Ev) : Ev := bnd (dat fa) fun x => bnd (dat fb) fun y => match x, y with
  | .int i, .int j => if -(2 ^ 62) ≤ i ∧ i < 2 ^ 62 ∧ -(2 ^ 62) ≤ j ∧ j < 2 ^ 62 ∧ (j - i).toNat ≤ 2 ^ 24 then pur (.c (.lst (rngD i (j - i).toNat))) else fai
  | _, _ => fai
def insI (k : Int) : List Int → List Int
  | [] => [k]
  | x :: r => if k < x then k :: x :: r else if k = x then x :: r else x :: insI k r
def srtI : List Int → List Int
  | [] => []
  | k :: r => insI k (srtI r)
def evSrtSt (fe : Ev) : Ev := bnd (dat fe) fun d => match d with
  | .lst xs => (match D.ints xs with | some ns => if ns.length ≤ 60 then pur (.c (.lst ((srtI ns).map .int))) else fai | none => fai)
  | _ => fai
/-! ### a global that is a tuple of constants -/
def KTup (K : PySem.W.Frag) (a : Addr) (xs : List V) : Prop := ∃ (o : Obj) (its : Array Value) (n : Nat), K.lookup a = some o ∧ o.cls = .type "tuple" ∧ o.data = .seq its n ∧ its.size ≤ sizeLine ∧ Vals xs its.toList
def cstV : D → Option V | .int i => some (.int i) | .str s => some (.str s) | .bl b => some (.bl b) | .non => some .non | _ => none
def cstVs : List D → Option (List V) | [] => some [] | d :: ds => (cstV d).bind fun v => (cstVs ds).map (v :: ·)
theorem rps_cst : ∀ {ds : List D} {xs : List V}, cstVs ds = some xs → Rps K ad F xs ds
  | [], xs, h => by cases h; exact .nil
  | d :: ds, xs, h => by
    unfold cstVs at h
    cases e : cstV d with
    | none => (rw [e] at h); cases h
    | some v =>
      rw [e] at h
      obtain ⟨ys, e2, rfl⟩ := map_some (show (cstVs ds).map (v :: ·) = some xs from h)
      refine .cons ?_ (rps_cst e2)
      cases d <;> cases e
      · exact .non
      · exact .bl _
      · exact .int _
      · exact .str _
theorem pp_gT {X : Cx} {x : Str} {pos : Pos} {ds : List D} {xs : List V} (eK : X.K = K) (hg : Gl X x) (h : ∃ a, X.mg x = some (.ref a) ∧ KTup X.K a xs) (hd : cstVs ds = some xs := by rfl) (hdb : (x == ("__debug__" : Str)) = false := by decide) : PE X (.Name x pos) (TP K ct W (vD (.tup ds))) := by
  subst eK
  obtain ⟨a, hm, ht⟩ := h
  refine (C8.pe_gc (v := .ref a) hg ⟨_, hm, rfl⟩ hdb).imp fun σ H Q h => ?_
  obtain ⟨fr, F, ρ, S, r0, ρ', e, q⟩ := h
  cases e
  exact q (.ref a) F H (Same.refl _) S (Rp.tup (.inr ht) (rps_cst hd))
/-! ### o(..), o an own object with __call__ -/
section
variable {X : Cx} {CX : CXT} {k : Nat} {f : Addr} {fd : FuncData} {ps : List Str} {x : Str} {p pos : Pos} {e : Expr} {es : List Expr} {n : Nat} {G : Fn} {as : List AE}
theorem pp_callO {fo : Ev} (c : Cl) (he : PE X (.Name x p) (TP K ct W fo)) (hm : Meth X.K (ct.ad c) "__call__" f) (hfn : PySem.W.fnIn X.K f = true) (Fn : FnOk X.prog X.w X.K X.mg X.base CX k f fd ps (spP K ct.ad n G)) (hr : Room k X.A) (hb : Binds X.K fd ps []) (hx : Passes CX X E0) (ha : PA X (e :: es) (TAr K ct W (evAs as)))
    (hst : starEach (e :: es) X.env = (false, eval e X.env) :: starEach es X.env := by rfl) (hpl : (backTo pos (starEach es X.env)).any (·.1) = false := by rfl) :
    PE X (.Call (.Name x p) (e :: es) [] pos) (TP K ct W (evMeth n G c fo as)) := (OW.pe_callO he hm hfn Fn hr hb (pass_all hx) ha hst hpl).imp fun σ H Q h => by
  obtain ⟨fr, F, ρ, S, h⟩ := h
  unfold evMeth at h
  rw [dcont (k := fun c xs => bnd (evAs as) fun ar => noEr (callG n G (.d (.obj c xs) :: ar)))] at h
  refine Tat.obj h S fun F1 H1 ρ1 a dx vs xs s1 S1 h1 l1 k1 h => ?_
  refine ⟨a, dx, _, rfl, S1.fh _ _ h1, ?_⟩
  refine Tat.bnd h S1 fun F2 H2 ρ2 us ar s2 S2 r2 h => ?_
  exact ⟨S2.fh _ _ (s2 _ _ h1), Tat.call (W := fun _ _ _ _ => False) h.noEr S2 (RAs.cons ((Rp.obj h1 l1 k1).mono s2) r2) fun _ _ _ z => z⟩
end
end PL
end
section
namespace PL
open PySem PySem.Spec PyProof.Rows L2
/-! ### what a pure term gives: K behind its value, X behind its exception -/
abbrev XC := Cl → Option D → List Sl → Prop
def Y0 {α : Type} (m : M α) (ρ : List Sl) (K : α → List Sl → Prop) (X : XC) : Prop := match m ρ with
  | some (.ok a, ρ1) => K a ρ1
  | some (.er c pl, ρ1) => X c pl ρ1
  | none => False
abbrev NX : XC := fun _ _ _ => False
section
variable {α β : Type} {ρ : List Sl} {X X' : XC}
theorem Y0.mono {m : M α} {K K' : α → List Sl → Prop} (h : Y0 m ρ K X) (k : ∀ a ρ1, K a ρ1 → K' a ρ1) (x : ∀ c pl ρ1, X c pl ρ1 → X' c pl ρ1) : Y0 m ρ K' X' := by
  unfold Y0 at h ⊢
  split
  · rename_i e; rw [e] at h; exact k _ _ h
  · rename_i e; rw [e] at h; exact x _ _ _ h
  · rename_i e; rw [e] at h; exact h
theorem Y0.mk {m : M α} {K : α → List Sl → Prop} (h : Y0 m ρ K NX) : ∃ a ρ1, m ρ = some (.ok a, ρ1) ∧ K a ρ1 := by
  unfold Y0 at h
  split at h
  · exact ⟨_, _, ‹_›, h⟩
  · exact h.elim
  · exact h.elim
theorem Y0.of {m : M α} {K : α → List Sl → Prop} {a : α} {ρ1 : List Sl} (e : m ρ = some (.ok a, ρ1)) (h : K a ρ1) : Y0 m ρ K X := by unfold Y0; rw [e]; exact h
variable {K : α → List Sl → Prop}
theorem Y0_pur {a : α} : Y0 (pur a) ρ K X = K a ρ := id rfl
theorem Y0_fai : Y0 (fai : M α) ρ K X = False := id rfl
theorem Y0_bnd {m : M β} {k : β → M α} : Y0 (bnd m k) ρ K X = Y0 m ρ (fun a ρ1 => Y0 (k a) ρ1 K X) X := by
  unfold Y0 bnd
  cases m ρ with
  | none => rfl
  | some x => obtain ⟨r, ρ1⟩ := x; cases r <;> rfl
theorem Y0_opt {o : Option α} : Y0 (opt o) ρ K X = ∃ a, o = some a ∧ K a ρ := by
  cases o with
  | none => exact propext ⟨fun h => h.elim, fun ⟨_, e, _⟩ => by cases e⟩
  | some a => exact propext ⟨fun h => ⟨a, rfl, h⟩, fun ⟨_, e, h⟩ => by cases e; exact h⟩
theorem Y0_noEr {m : M α} : Y0 (noEr m) ρ K X = Y0 m ρ K NX := by
  unfold Y0 noEr
  cases m ρ with
  | none => rfl
  | some x => obtain ⟨r, ρ1⟩ := x; cases r <;> rfl
theorem Y0_if {c : Prop} [Decidable c] {a b : M α} : Y0 (if c then a else b) ρ K X = if c then Y0 a ρ K X else Y0 b ρ K X := by split <;> rfl
theorem ex_if {γ : Type} {c : Prop} [Decidable c] {a : γ} {P : γ → Prop} : (∃ z, (if c then some a else none) = some z ∧ P z) = (c ∧ P a) := by
  by_cases h : c
  · rw [if_pos h]; exact propext ⟨fun ⟨z, e, p⟩ => by cases e; exact ⟨h, p⟩, fun ⟨_, p⟩ => ⟨a, rfl, p⟩⟩
  · rw [if_neg h]; exact propext ⟨fun ⟨z, e, _⟩ => (by cases e), fun z => (h z.1).elim⟩
theorem ex_so {γ : Type} {a : γ} {P : γ → Prop} : (∃ z, some a = some z ∧ P z) = P a := propext ⟨fun ⟨z, e, p⟩ => by cases e; exact p, fun p => ⟨a, rfl, p⟩⟩
end
section
variable {ρ : List Sl} {X : XC} {K : Rv → List Sl → Prop} {KD : D → List Sl → Prop} {KB : Bool → List Sl → Prop} {KF : Fl → List Sl → Prop} {m a b c : Ev} {s t : M Fl} {u v : M Bool} {i j n : Nat}
theorem Y0_vD {d : D} : Y0 (vD d) ρ K X = K (.d d) ρ := id rfl
theorem Y0_evV : Y0 (evV i) ρ K X = match ρ[i]? with | some (.dat d) => K (.d d) ρ | _ => False := by
  unfold Y0 evV
  cases ρ[i]? with
  | none => rfl
  | some s => cases s <;> rfl
theorem Y0_evF : Y0 (evF i) ρ K X = match ρ[i]? with | some (.dat d) => K (.d d) ρ | some (.cel .own c) => (match c.froz with | some d => K (.d d) (ρ.set i (.dat d)) | none => False) | _ => False := by
  unfold Y0 evF
  cases ρ[i]? with
  | none => rfl
  | some s =>
    cases s with
    | cel k c => cases k with
      | par => rfl
      | own => dsimp only; cases c.froz <;> rfl
    | _ => rfl
theorem Y0_evM : Y0 (evM i) ρ K X = match ρ[i]? with | some (.dat d) => K (.d d) ρ | some (.cel .own c) => K (.c c) (ρ.set i .un) | _ => False := by
  unfold Y0 evM
  cases ρ[i]? with
  | none => rfl
  | some s =>
    cases s with
    | cel k c => cases k <;> rfl
    | _ => rfl
theorem Y0_dat : Y0 (dat m) ρ KD X = Y0 m ρ (fun r ρ1 => match r with | .d d => KD d ρ1 | .c c => ∃ d, c.froz = some d ∧ KD d ρ1) X := by
  unfold dat
  rw [Y0_bnd]
  congr 1
  funext r ρ1
  cases r with
  | d d => rfl
  | c c => exact Y0_opt
theorem Y0_tst : Y0 (tst m) ρ KB X = Y0 (dat m) ρ (fun d ρ1 => match d with | .bl b => KB b ρ1 | _ => False) X := by
  unfold tst
  rw [Y0_bnd]
  congr 1
  funext d ρ1
  cases d <;> rfl
theorem Y0_ev2 {g : D → D → Option D} : Y0 (ev2 g a b) ρ K X = Y0 (dat a) ρ (fun x ρ1 => Y0 (dat b) ρ1 (fun y ρ2 => ∃ z, g x y = some z ∧ K (.d z) ρ2) X) X := by
  unfold ev2
  rw [Y0_bnd]
  congr 1; funext x ρ1
  rw [Y0_bnd]
  congr 1; funext y ρ2
  rw [Y0_opt]
  exact propext ⟨fun ⟨r, e, k⟩ => by obtain ⟨z, e1, e2⟩ := map_some e; subst e2; exact ⟨z, e1, k⟩, fun ⟨z, e, k⟩ => ⟨_, by rw [e]; rfl, k⟩⟩
theorem Y0_ev2c {g : D → D → Option CC} : Y0 (ev2c g a b) ρ K X = Y0 (dat a) ρ (fun x ρ1 => Y0 (dat b) ρ1 (fun y ρ2 => ∃ z, g x y = some z ∧ K (.c z) ρ2) X) X := by
  unfold ev2c
  rw [Y0_bnd]
  congr 1; funext x ρ1
  rw [Y0_bnd]
  congr 1; funext y ρ2
  rw [Y0_opt]
  exact propext ⟨fun ⟨r, e, k⟩ => by obtain ⟨z, e1, e2⟩ := map_some e; subst e2; exact ⟨z, e1, k⟩, fun ⟨z, e, k⟩ => ⟨_, by rw [e]; rfl, k⟩⟩
theorem Y0_ev1 {g : D → Option D} : Y0 (ev1 g a) ρ K X = Y0 (dat a) ρ (fun x ρ1 => ∃ z, g x = some z ∧ K (.d z) ρ1) X := by
  unfold ev1
  rw [Y0_bnd]
  congr 1; funext x ρ1
  rw [Y0_opt]
  exact propext ⟨fun ⟨r, e, k⟩ => by obtain ⟨z, e1, e2⟩ := map_some e; subst e2; exact ⟨z, e1, k⟩, fun ⟨z, e, k⟩ => ⟨_, by rw [e]; rfl, k⟩⟩
theorem Y0_seq : Y0 (evSeq s t) ρ KF X = Y0 s ρ (fun f ρ1 => match f with | .nx => Y0 t ρ1 KF X | f => KF f ρ1) X := by
  unfold Y0 evSeq
  cases s ρ with
  | none => rfl
  | some x => obtain ⟨r, ρ1⟩ := x; cases r with
    | ok f => cases f <;> rfl
    | er c pl => rfl
theorem Y0_evIf : Y0 (evIf u s t) ρ KF X = Y0 u ρ (fun c ρ1 => if c = true then Y0 s ρ1 KF X else Y0 t ρ1 KF X) X := by
  unfold evIf
  rw [Y0_bnd]
  congr 1; funext c ρ1
  exact Y0_if
theorem Y0_tNo : Y0 (tNo u) ρ KB X = Y0 u ρ (fun c ρ1 => KB (!c) ρ1) X := by unfold tNo; rw [Y0_bnd]; rfl
theorem Y0_tAn : Y0 (tAn u v) ρ KB X = Y0 u ρ (fun c ρ1 => if c = true then Y0 v ρ1 KB X else KB false ρ1) X := by
  unfold tAn; rw [Y0_bnd]; congr 1; funext c ρ1; cases c <;> rfl
theorem Y0_tOo : Y0 (tOo u v) ρ KB X = Y0 u ρ (fun c ρ1 => if c = true then KB true ρ1 else Y0 v ρ1 KB X) X := by
  unfold tOo; rw [Y0_bnd]; congr 1; funext c ρ1; cases c <;> rfl
theorem Y0_vNo : Y0 (vNo m) ρ K X = Y0 (tst m) ρ (fun c ρ1 => K (.d (.bl (!c))) ρ1) X := by unfold vNo; rw [Y0_bnd]; rfl
theorem Y0_vAn : Y0 (vAn a b) ρ K X = Y0 (tst a) ρ (fun c ρ1 => if c = true then Y0 (dat b) ρ1 (fun d ρ2 => K (.d d) ρ2) X else K (.d (.bl false)) ρ1) X := by
  unfold vAn; rw [Y0_bnd]; congr 1; funext c ρ1; cases c
  · rfl
  · simp only [if_true]; rw [Y0_bnd]; rfl
theorem Y0_vOo : Y0 (vOo a b) ρ K X = Y0 (tst a) ρ (fun c ρ1 => if c = true then K (.d (.bl true)) ρ1 else Y0 (dat b) ρ1 (fun d ρ2 => K (.d d) ρ2) X) X := by
  unfold vOo; rw [Y0_bnd]; congr 1; funext c ρ1; cases c
  · simp only [Bool.false_eq_true, if_false]; rw [Y0_bnd]; rfl
  · rfl
theorem Y0_vIf : Y0 (vIf u a b) ρ K X = Y0 u ρ (fun c ρ1 => if c = true then Y0 a ρ1 K X else Y0 b ρ1 K X) X := by
  unfold vIf; rw [Y0_bnd]; congr 1; funext c ρ1; exact Y0_if
theorem ex_bl {o : Option D} {P : D → Prop} {Q : Bool → Prop} (h : ∀ b, P (.bl b) = Q b) (h2 : ∀ z, (∀ b, z ≠ .bl b) → P z = False) : (∃ z, o = some z ∧ P z) = ∃ b, o = some (.bl b) ∧ Q b :=
  propext ⟨fun ⟨z, e, p⟩ => by
    cases z with
    | bl b => exact ⟨b, e, by rw [← h]; exact p⟩
    | _ => rw [h2 _ (fun b q => by cases q)] at p; exact p.elim, fun ⟨b, e, p⟩ => ⟨_, e, by rw [h]; exact p⟩⟩
theorem Y0_ch2 {g g' : D → D → Option D} : Y0 (ch2 g g' a b c) ρ K X = Y0 (dat a) ρ (fun x ρ1 => Y0 (dat b) ρ1 (fun y ρ2 => ∃ z, g x y = some (.bl z) ∧ if z = true then Y0 (dat c) ρ2 (fun w ρ3 => ∃ z2, g' y w = some z2 ∧ K (.d z2) ρ3) X else K (.d (.bl false)) ρ2) X) X := by
  unfold ch2
  rw [Y0_bnd]; congr 1; funext x ρ1
  rw [Y0_bnd]; congr 1; funext y ρ2
  rw [Y0_bnd, Y0_opt]
  refine ex_bl (fun k => ?_) (fun z h => ?_)
  · cases k
    · rfl
    · dsimp only
      rw [if_pos rfl, Y0_bnd]; congr 1; funext w ρ3
      rw [Y0_opt]
      exact propext ⟨fun ⟨r, e, k⟩ => by obtain ⟨z, e1, e2⟩ := map_some e; subst e2; exact ⟨z, e1, k⟩, fun ⟨z, e, k⟩ => ⟨_, by rw [e]; rfl, k⟩⟩
  · cases z <;> first | rfl | exact absurd rfl (h _)
theorem Y0_ch3 {g g' g'' : D → D → Option D} {d : Ev} : Y0 (ch3 g g' g'' a b c d) ρ KB X = Y0 (dat a) ρ (fun x ρ1 => Y0 (dat b) ρ1 (fun y ρ2 => ∃ z, g x y = some (.bl z) ∧ if z = true then Y0 (dat c) ρ2 (fun w ρ3 => ∃ z2, g' y w = some (.bl z2) ∧ if z2 = true then Y0 (dat d) ρ3 (fun q ρ4 => ∃ z3, g'' w q = some (.bl z3) ∧ KB z3 ρ4) X else KB false ρ3) X else KB false ρ2) X) X := by
  unfold ch3
  rw [Y0_bnd]; congr 1; funext x ρ1
  rw [Y0_bnd]; congr 1; funext y ρ2
  rw [Y0_bnd, Y0_opt]
  refine ex_bl (fun k => ?_) (fun z h => ?_)
  · cases k
    · rfl
    · dsimp only
      rw [if_pos rfl, Y0_bnd]; congr 1; funext w ρ3
      rw [Y0_bnd, Y0_opt]
      refine ex_bl (fun k => ?_) (fun z h => ?_)
      · cases k
        · rfl
        · dsimp only
          rw [if_pos rfl, Y0_bnd]; congr 1; funext w ρ3
          rw [Y0_bnd, Y0_opt]
          refine ex_bl (fun k => rfl) (fun z h => ?_)
          cases z <;> first | rfl | exact absurd rfl (h _)
      · cases z <;> first | rfl | exact absurd rfl (h _)
  · cases z <;> first | rfl | exact absurd rfl (h _)
/-- a slot that may be set -/
def canSet : Sl → Bool | .cel .par _ => false | _ => true
theorem Y0_setD {d : D} : Y0 (setD i d) ρ KF X = ∃ s, ρ[i]? = some s ∧ canSet s = true ∧ KF .nx (ρ.set i (.dat d)) := by
  unfold Y0 setD
  cases ρ[i]? with
  | none => exact propext ⟨fun h => h.elim, fun ⟨_, e, _⟩ => by cases e⟩
  | some s =>
    have go : ∀ {P : Prop}, canSet s = true → (P = ∃ s', some s = some s' ∧ canSet s' = true ∧ P) := fun {P} z => propext ⟨fun h => ⟨s, rfl, z, h⟩, fun ⟨_, _, _, h⟩ => h⟩
    cases s with
    | cel k c => cases k with
      | own => exact go rfl
      | par => exact propext ⟨fun h => h.elim, fun ⟨_, e, z, _⟩ => by cases e; cases z⟩
    | _ => exact go rfl
theorem Y0_setC {d : CC} : Y0 (PL.setC i d) ρ KF X = ∃ s, ρ[i]? = some s ∧ canSet s = true ∧ KF .nx (ρ.set i (.cel .own d)) := by
  unfold Y0 PL.setC
  cases ρ[i]? with
  | none => exact propext ⟨fun h => h.elim, fun ⟨_, e, _⟩ => by cases e⟩
  | some s =>
    have go : ∀ {P : Prop}, canSet s = true → (P = ∃ s', some s = some s' ∧ canSet s' = true ∧ P) := fun {P} z => propext ⟨fun h => ⟨s, rfl, z, h⟩, fun ⟨_, _, _, h⟩ => h⟩
    cases s with
    | cel k c => cases k with
      | own => exact go rfl
      | par => exact propext ⟨fun h => h.elim, fun ⟨_, e, z, _⟩ => by cases e; cases z⟩
    | _ => exact go rfl
theorem Y0_asg : Y0 (evAsg i m) ρ KF X = Y0 (dat m) ρ (fun d ρ1 => Y0 (setD i d) ρ1 KF X) X := by unfold evAsg; rw [Y0_bnd]
theorem Y0_asgC : Y0 (evAsgC i m) ρ KF X = Y0 m ρ (fun r ρ1 => match r with | .c c => Y0 (PL.setC i c) ρ1 KF X | .d _ => False) X := by
  unfold evAsgC; rw [Y0_bnd]; congr 1; funext r ρ1; cases r <;> rfl
theorem Y0_ret : Y0 (evRet m) ρ KF X = Y0 m ρ (fun r ρ1 => KF (.rt r) ρ1) X := by unfold evRet; rw [Y0_bnd]; rfl
theorem Y0_ex : Y0 (evEx m) ρ KF X = Y0 m ρ (fun _ ρ1 => KF .nx ρ1) X := by unfold evEx; rw [Y0_bnd]; rfl
theorem Y0_nx : Y0 evNx ρ KF X = KF .nx ρ := id rfl
theorem Y0_look {α : Type} {ok : α → Bool} {m : M α} {K : α → List Sl → Prop} : Y0 (look j ok m) ρ K X = match ρ[j]? with | some (.cel _ (.lst xs)) => Y0 m (lkS j xs 0 ρ) (fun r _ => ok r = true ∧ K r ρ) NX | _ => False := by
  unfold Y0 look
  cases ρ[j]? with
  | none => rfl
  | some s => cases s with
    | cel k c => cases c with
      | lst xs =>
        dsimp only
        cases m (lkS j xs 0 ρ) with
        | none => rfl
        | some x => obtain ⟨r, ρ1⟩ := x; cases r with
          | ok a => dsimp only; cases ok a <;> simp
          | er c pl => rfl
      | _ => rfl
    | _ => rfl
variable {KS : List D → List Sl → Prop} {KA : List Ar → List Sl → Prop} {es : List DE} {as : List AE}
theorem Y0_ds0 : Y0 (evDs []) ρ KS X = KS [] ρ := id rfl
theorem Y0_dsE : Y0 (evDs (.e m :: es)) ρ KS X = Y0 (dat m) ρ (fun d ρ1 => Y0 (evDs es) ρ1 (fun ds ρ2 => KS (d :: ds) ρ2) X) X := by
  show Y0 (bnd _ _) ρ KS X = _
  rw [Y0_bnd]; congr 1; funext d ρ1; rw [Y0_bnd]; rfl
theorem Y0_dsS : Y0 (evDs (.s m :: es)) ρ KS X = Y0 (dat m) ρ (fun d ρ1 => ∃ xs, d.items = some xs ∧ Y0 (evDs es) ρ1 (fun ds ρ2 => KS (xs ++ ds) ρ2) X) X := by
  show Y0 (bnd _ _) ρ KS X = _
  rw [Y0_bnd]; congr 1; funext d ρ1; rw [Y0_bnd, Y0_opt]; congr 1; funext xs; rw [Y0_bnd]; rfl
theorem Y0_B {g : List D → Option D} : Y0 (evB g es) ρ K X = Y0 (evDs es) ρ (fun ds ρ1 => ∃ z, g ds = some z ∧ K (.d z) ρ1) X := by
  unfold evB
  rw [Y0_bnd]; congr 1; funext ds ρ1; rw [Y0_opt]
  exact propext ⟨fun ⟨r, e, k⟩ => by obtain ⟨z, e1, e2⟩ := map_some e; subst e2; exact ⟨z, e1, k⟩, fun ⟨z, e, k⟩ => ⟨_, by rw [e]; rfl, k⟩⟩
theorem Y0_Bc {g : List D → Option CC} : Y0 (evBc g es) ρ K X = Y0 (evDs es) ρ (fun ds ρ1 => ∃ z, g ds = some z ∧ K (.c z) ρ1) X := by
  unfold evBc
  rw [Y0_bnd]; congr 1; funext ds ρ1; rw [Y0_opt]
  exact propext ⟨fun ⟨r, e, k⟩ => by obtain ⟨z, e1, e2⟩ := map_some e; subst e2; exact ⟨z, e1, k⟩, fun ⟨z, e, k⟩ => ⟨_, by rw [e]; rfl, k⟩⟩
theorem Y0_tup : Y0 (evTup es) ρ K X = Y0 (evDs es) ρ (fun ds ρ1 => ds.length ≤ 16777216 ∧ K (.d (.tup ds)) ρ1) X := by
  unfold evTup
  rw [Y0_bnd]; congr 1; funext ds ρ1
  rw [Y0_if]
  by_cases h : ds.length ≤ 16777216 <;> simp [h, Y0_vD, Y0_fai]
theorem Y0_lst : Y0 (evLst es) ρ K X = Y0 (evDs es) ρ (fun ds ρ1 => ds.length ≤ 16777216 ∧ K (.c (.lst ds)) ρ1) X := by
  unfold evLst
  rw [Y0_bnd]; congr 1; funext ds ρ1
  rw [Y0_if]
  by_cases h : ds.length ≤ 16777216 <;> simp [h, Y0_pur, Y0_fai]
theorem Y0_isL {P : Rv → List Sl → Prop} : Y0 (isL j) ρ P X = match ρ[j]? with | some (.cel _ (.lst _)) => P (.d .non) ρ | _ => False := by
  unfold Y0 isL
  cases ρ[j]? with
  | none => rfl
  | some s => cases s with
    | cel k c => cases c <;> rfl
    | _ => rfl
theorem Y0_modL {f : List D → Option (D × List D)} : Y0 (modL j f) ρ K X = match ρ[j]? with | some (.cel k (.lst xs)) => ∃ p, f xs = some p ∧ K (.d p.1) (ρ.set j (.cel k (.lst p.2))) | _ => False := by
  unfold Y0 modL
  cases ρ[j]? with
  | none => rfl
  | some s => cases s with
    | cel k c => cases c with
      | lst xs =>
        dsimp only
        cases f xs with
        | none => exact propext ⟨fun h => h.elim, fun ⟨_, e, _⟩ => by cases e⟩
        | some p => exact propext ⟨fun h => ⟨p, rfl, h⟩, fun ⟨_, e, h⟩ => by cases e; exact h⟩
      | _ => rfl
    | _ => rfl
theorem Y0_bmL {f : List D → List D → Option (D × List D)} : Y0 (evBmL j f es) ρ K X = match ρ[j]? with
    | some (.cel _ (.lst _)) => Y0 (evDs es) ρ (fun ds ρ1 => match ρ1[j]? with | some (.cel k (.lst xs)) => ∃ p, f xs ds = some p ∧ K (.d p.1) (ρ1.set j (.cel k (.lst p.2))) | _ => False) X
    | _ => False := by
  unfold evBmL
  rw [Y0_bnd, Y0_isL]
  simp only [Y0_bnd, Y0_modL]
theorem Y0_LstRg {a b : Ev} : Y0 (evLstRg a b) ρ K X = Y0 (dat a) ρ (fun x ρ1 => Y0 (dat b) ρ1 (fun y ρ2 => match x, y with
    | .int i, .int j => (-(2 ^ 62) ≤ i ∧ i < 2 ^ 62 ∧ -(2 ^ 62) ≤ j ∧ j < 2 ^ 62 ∧ (j - i).toNat ≤ 2 ^ 24) ∧ K (.c (.lst (rngD i (j - i).toNat))) ρ2
    | _, _ => False) X) X := by
  unfold evLstRg
  rw [Y0_bnd]; congr 1; funext x ρ1
  rw [Y0_bnd]; congr 1; funext y ρ2
  cases x <;> try rfl
  rename_i i
  cases y <;> try rfl
  rename_i j
  dsimp only
  split
  · rename_i h
    exact propext ⟨fun k => ⟨h, k⟩, fun k => k.2⟩
  · rename_i h
    exact propext ⟨fun k => k.elim, fun k => absurd k.1 h⟩
theorem Y0_SrtSt {a : Ev} : Y0 (evSrtSt a) ρ K X = Y0 (dat a) ρ (fun x ρ1 => match x with
    | .lst xs => ∃ ns, D.ints xs = some ns ∧ ns.length ≤ 60 ∧ K (.c (.lst ((srtI ns).map .int))) ρ1
    | _ => False) X := by
  unfold evSrtSt
  rw [Y0_bnd]; congr 1; funext x ρ1
  cases x <;> try rfl
  rename_i xs
  dsimp only
  cases D.ints xs with
  | none => exact propext ⟨fun k => k.elim, fun ⟨_, e, _⟩ => by cases e⟩
  | some ns =>
    dsimp only
    split
    · rename_i h
      exact propext ⟨fun k => ⟨ns, rfl, h, k⟩, fun ⟨_, e, _, k⟩ => by cases e; exact k⟩
    · rename_i h
      exact propext ⟨fun k => k.elim, fun ⟨_, e, k, _⟩ => by cases e; exact absurd k h⟩
theorem Y0_ixL : Y0 (evIxL j m) ρ K X = match ρ[j]? with
    | some (.cel _ (.lst _)) => Y0 (dat m) ρ (fun d ρ1 => match ρ1[j]? with | some (.cel _ (.lst xs)) => (match d with | .int i => ∃ z, atI xs i = some z ∧ K (.d z) ρ1 | _ => False) | _ => False) X
    | _ => False := by
  unfold evIxL
  rw [Y0_bnd, Y0_isL]
  cases ρ[j]? with
  | none => rfl
  | some s => cases s with
    | cel k c => cases c with
      | lst xs =>
        dsimp only
        rw [Y0_bnd]
        congr 1
        funext d ρ1
        unfold Y0
        dsimp only
        generalize ρ1[j]? = o
        cases o with
        | none => cases d <;> rfl
        | some s => cases s with
          | cel k c => cases c with
            | lst ys =>
              cases d <;> try rfl
              rename_i i
              dsimp only
              cases atI ys i with
              | none => exact propext ⟨fun h => h.elim, fun ⟨_, e, _⟩ => by cases e⟩
              | some z => exact propext ⟨fun h => ⟨z, rfl, h⟩, fun ⟨_, e, h⟩ => by cases e; exact h⟩
            | _ => cases d <;> rfl
          | _ => cases d <;> rfl
      | _ => rfl
    | _ => rfl
theorem Y0_setI : Y0 (evSetI j a b) ρ KF X = Y0 (dat b) ρ (fun d ρ1 => match ρ1[j]? with
    | some (.cel _ (.lst _)) => Y0 (dat a) ρ1 (fun i ρ2 => match i with
      | .int i => (match ρ2[j]? with | some (.cel k (.lst xs)) => ∃ n, ixN xs.length i = some n ∧ KF .nx (ρ2.set j (.cel k (.lst (xs.set n d)))) | _ => False)
      | _ => False) X
    | _ => False) X := by
  unfold evSetI
  rw [Y0_bnd]; congr 1; funext d ρ1
  rw [Y0_bnd, Y0_isL]
  cases ρ1[j]? with
  | none => rfl
  | some s => cases s with
    | cel k c => cases c with
      | lst xs =>
        dsimp only
        rw [Y0_bnd]
        congr 1
        funext i ρ2
        cases i with
        | int i =>
          dsimp only
          rw [Y0_bnd, Y0_modL]
          cases ρ2[j]? with
          | none => rfl
          | some s => cases s with
            | cel k c => cases c with
              | lst xs =>
                dsimp only
                cases ixN xs.length i with
                | none => exact propext ⟨fun ⟨_, e, _⟩ => (by cases e), fun ⟨_, e, _⟩ => (by cases e)⟩
                | some n => exact propext ⟨fun ⟨_, e, h⟩ => ⟨n, rfl, by cases e; exact h⟩, fun ⟨_, e, h⟩ => ⟨_, rfl, by cases e; exact h⟩⟩
              | _ => rfl
            | _ => rfl
        | _ => rfl
      | _ => rfl
    | _ => rfl
theorem Y0_as0 : Y0 (evAs []) ρ KA X = KA [] ρ := id rfl
theorem Y0_asE : Y0 (evAs (.e m :: as)) ρ KA X = Y0 (dat m) ρ (fun d ρ1 => Y0 (evAs as) ρ1 (fun ar ρ2 => KA (.d d :: ar) ρ2) X) X := by
  show Y0 (bnd _ _) ρ KA X = _
  rw [Y0_bnd]; congr 1; funext d ρ1; rw [Y0_bnd]; rfl
theorem Y0_asC : Y0 (evAs (.c j :: as)) ρ KA X = match ρ[j]? with | some (.cel _ _) => Y0 (evAs as) ρ (fun ar ρ2 => KA (.c j :: ar) ρ2) X | _ => False := by
  conv => lhs; unfold Y0 evAs
  cases h : ρ[j]? with
  | none => rfl
  | some s => cases s with
    | cel k c =>
      dsimp only
      have := Y0_bnd (ρ := ρ) (m := evAs as) (k := fun as => pur (Ar.c j :: as)) (K := KA) (X := X)
      unfold Y0 at this ⊢
      exact this
    | _ => rfl
theorem Y0_callG {G : Fn} {ar : List Ar} : Y0 (callG n G ar) ρ K X = ∃ ss, argSl ρ ar = some ss ∧ (ar.length = n ∧ (celsOf ar).Nodup) ∧ Y0 G ss (fun r ss' => K r (back ρ ar ss')) (fun c pl ss' => X c pl (back ρ ar ss')) := by
  unfold Y0 callG
  cases argSl ρ ar with
  | none => exact propext ⟨fun h => h.elim, fun ⟨_, e, _⟩ => by cases e⟩
  | some ss =>
    dsimp only
    by_cases h : ar.length = n ∧ (celsOf ar).Nodup
    · rw [if_pos h]
      refine propext ⟨fun z => ⟨ss, rfl, h, ?_⟩, fun ⟨_, e, _, z⟩ => ?_⟩
      · cases e : G ss with
        | none => rw [e] at z; exact z
        | some x => obtain ⟨r, s2⟩ := x; rw [e] at z; cases r <;> exact z
      · cases e
        cases e : G ss with
        | none => rw [e] at z; exact z
        | some x => obtain ⟨r, s2⟩ := x; rw [e] at z; cases r <;> exact z
    · rw [if_neg h]
      exact propext ⟨fun z => z.elim, fun ⟨_, _, z, _⟩ => h z⟩
theorem Y0_call {G : Fn} {ds : List D} : Y0 (evCall n G as ds) ρ K X = Y0 (evAs as) ρ (fun ar ρ1 => Y0 (callG n G (ar ++ ds.map .d)) ρ1 K X) X := by unfold evCall; rw [Y0_bnd]
theorem Y0_call0 {G : Fn} {ds : List D} : Y0 (evCall0 n G as ds) ρ K X = Y0 (evAs as) ρ (fun ar ρ1 => Y0 (callG n G (ar ++ ds.map .d)) ρ1 K NX) X := by
  unfold evCall0; rw [Y0_bnd]; congr 1; funext ar ρ1; rw [Y0_noEr]
theorem Y0_callN {G : Fn} {c : CC} {ar : List Ar} : Y0 (callN n G c ar) ρ K X = Y0 (callG n G (.c ρ.length :: ar)) (ρ ++ [.cel .own c]) (fun r ρ1 => K r (ρ1.take ρ.length)) (fun c pl ρ1 => X c pl (ρ1.take ρ.length)) := by
  unfold Y0 callN
  cases callG n G (.c ρ.length :: ar) (ρ ++ [.cel .own c]) with
  | none => rfl
  | some x => obtain ⟨r, ρ1⟩ := x; cases r <;> rfl
theorem Y0_CallN {G : Fn} {ds : List D} : Y0 (evCallN n G m as ds) ρ K X = Y0 m ρ (fun r ρ1 => match r with | .c c => Y0 (evAs as) ρ1 (fun ar ρ2 => Y0 (callN n G c (ar ++ ds.map .d)) ρ2 K X) X | .d _ => False) X := by
  unfold evCallN; rw [Y0_bnd]; congr 1; funext r ρ1
  cases r with
  | d d => rfl
  | c c => exact Y0_bnd
theorem Y0_CallN0 {G : Fn} {ds : List D} : Y0 (evCallN0 n G m as ds) ρ K X = Y0 m ρ (fun r ρ1 => match r with | .c c => Y0 (evAs as) ρ1 (fun ar ρ2 => Y0 (callN n G c (ar ++ ds.map .d)) ρ2 K NX) X | .d _ => False) X := by
  unfold evCallN0; rw [Y0_bnd]; congr 1; funext r ρ1
  cases r with
  | d d => rfl
  | c c =>
    dsimp only
    rw [Y0_bnd]; congr 1; funext ar ρ2; rw [Y0_noEr]
theorem Y0_CallC {G : Fn} {c : Cl} : Y0 (evCallC n G c as) ρ K X = Y0 (evAs as) ρ (fun ar ρ1 => Y0 (callG n G (.d (.cl c) :: ar)) ρ1 K NX) X := by
  unfold evCallC; rw [Y0_bnd]; congr 1; funext ar ρ1; rw [Y0_noEr]
theorem Y0_CallCS {G : Fn} {c : Cl} : Y0 (evCallCS n G c as) ρ K X = Y0 (evAs as) ρ (fun ar ρ1 => Y0 (callG n G (.d (.cl c) :: ar)) ρ1 K X) X := by
  unfold evCallCS; rw [Y0_bnd]
theorem Y0_mkL {G : Fn} {c : Cl} : Y0 (evMkL i n G c as) ρ K X = match ρ[i]? with | some (.dat (.cl c')) => c' = c ∧ Y0 (evMk n G c as []) ρ K X | _ => False := by
  conv => lhs; unfold Y0 evMkL
  cases ρ[i]? with
  | none => rfl
  | some s =>
    cases s with
    | dat d =>
      cases d with
      | cl c' =>
        dsimp only
        by_cases h : c' = c
        · rw [if_pos h]; exact propext ⟨fun q => ⟨h, q⟩, fun q => q.2⟩
        · rw [if_neg h]; exact propext ⟨fun q => q.elim, fun q => h q.1⟩
      | _ => rfl
    | _ => rfl
theorem Y0_BestN {f : Int → Int → Int} {es : List DE} : Y0 (evBestN f es) ρ K X = Y0 (evDs es) ρ (fun ds ρ1 => ∃ z, gBestN f ds = some z ∧ K (.d z) ρ1) X := by
  unfold evBestN
  rw [Y0_bnd]; congr 1; funext ds ρ1; rw [Y0_opt]
  exact propext ⟨fun ⟨r, e, k⟩ => by obtain ⟨z, e1, e2⟩ := map_some e; subst e2; exact ⟨z, e1, k⟩, fun ⟨z, e, k⟩ => ⟨_, by rw [e]; rfl, k⟩⟩
theorem Y0_own2 {G : Fn} {c : Cl} : Y0 (evOwn2 n G c a b) ρ K X = Y0 (dat a) ρ (fun d ρ1 => match d with
    | .obj c' xs => c' = c ∧ Y0 (dat b) ρ1 (fun d2 ρ2 => match d2 with | .obj c2 ys => c2 = c ∧ Y0 (callG n G [.d (.obj c xs), .d (.obj c ys)]) ρ2 K NX | _ => False) X
    | _ => False) X := by
  unfold evOwn2
  rw [Y0_bnd]; congr 1; funext d ρ1
  cases d <;> try rfl
  rename_i c' xs
  dsimp only
  rw [Y0_if]
  by_cases h : c' = c
  · rw [if_pos h, Y0_bnd]
    simp only [h, true_and]
    congr 1; funext d2 ρ2
    cases d2 <;> try rfl
    rename_i c2 ys
    dsimp only
    rw [Y0_if]
    by_cases h2 : c2 = c
    · rw [if_pos h2, Y0_noEr]; simp only [h2, true_and]
    · rw [if_neg h2, Y0_fai]; simp only [h2, false_and]
  · rw [if_neg h, Y0_fai]; simp only [h, false_and]
theorem Y0_st {k : StK} : Y0 (evSt k m) ρ K X = Y0 (dat m) ρ (fun d ρ1 => match d with | .tup xs => K (.d (.tup (k.ap xs))) ρ1 | _ => False) X := by
  unfold evSt; rw [Y0_bnd]; congr 1; funext d ρ1; cases d <;> rfl
theorem Y0_ownIn {G : Fn} {c : Cl} : Y0 (evOwnIn n G c a b) ρ K X = Y0 (dat a) ρ (fun x ρ1 => Y0 (dat b) ρ1 (fun d ρ2 => match d with
    | .obj c' xs => c' = c ∧ Y0 (tst (noEr (callG n G [.d (.obj c xs), .d x]))) ρ2 (fun z ρ3 => K (.d (.bl z)) ρ3) X
    | _ => False) X) X := by
  unfold evOwnIn
  rw [Y0_bnd]; congr 1; funext x ρ1
  rw [Y0_bnd]; congr 1; funext d ρ2
  cases d <;> try rfl
  rename_i c' xs
  dsimp only
  rw [Y0_if]
  by_cases h : c' = c
  · rw [if_pos h, Y0_bnd]; simp only [h, true_and]; rfl
  · rw [if_neg h, Y0_fai]; simp only [h, false_and]
theorem Y0_ownNin {G : Fn} {c : Cl} : Y0 (evOwnNin n G c a b) ρ K X = Y0 (dat a) ρ (fun x ρ1 => Y0 (dat b) ρ1 (fun d ρ2 => match d with
    | .obj c' xs => c' = c ∧ Y0 (tst (noEr (callG n G [.d (.obj c xs), .d x]))) ρ2 (fun z ρ3 => K (.d (.bl (!z))) ρ3) X
    | _ => False) X) X := by
  unfold evOwnNin
  rw [Y0_bnd]; congr 1; funext x ρ1
  rw [Y0_bnd]; congr 1; funext d ρ2
  cases d <;> try rfl
  rename_i c' xs
  dsimp only
  rw [Y0_if]
  by_cases h : c' = c
  · rw [if_pos h, Y0_bnd]; simp only [h, true_and]; rfl
  · rw [if_neg h, Y0_fai]; simp only [h, false_and]
theorem datas_0 : datas [] = some [] := id rfl
theorem datas_d {d : D} {ar : List Ar} : datas (.d d :: ar) = (datas ar).map (d :: ·) := by
  show (match Ar.data (.d d), datas ar with | some d, some ds => some (d :: ds) | _, _ => none) = _
  cases datas ar <;> rfl
theorem Y0_callV {G : Fn} {ds : List D} : Y0 (callV n G ds) ρ K X = ((n ≤ ds.length ∧ ds.length ≤ 1000000) ∧ Y0 (callG (n + 1) G ((ds.take n).map .d ++ [.d (.tup (ds.drop n))])) ρ K X) := by
  unfold callV
  rw [Y0_if]
  by_cases h : n ≤ ds.length ∧ ds.length ≤ 1000000
  · rw [if_pos h]; simp only [h, true_and, and_self]
  · rw [if_neg h]; exact propext ⟨fun z => z.elim, fun z => h z.1⟩
theorem Y0_CallV {G : Fn} : Y0 (evCallV n G as) ρ K X = Y0 (evAs as) ρ (fun ar ρ1 => ∃ ds, datas ar = some ds ∧ Y0 (callV n G ds) ρ1 K X) X := by
  unfold evCallV
  rw [Y0_bnd]; congr 1; funext ar ρ1
  rw [Y0_bnd, Y0_opt]
theorem Y0_CallV0 {G : Fn} : Y0 (evCallV0 n G as) ρ K X = Y0 (evAs as) ρ (fun ar ρ1 => ∃ ds, datas ar = some ds ∧ Y0 (callV n G ds) ρ1 K NX) X := by
  unfold evCallV0
  rw [Y0_bnd]; congr 1; funext ar ρ1
  rw [Y0_bnd, Y0_opt]
  congr 1; funext ds; rw [Y0_noEr]
theorem Y0_CallVS {G : Fn} : Y0 (evCallVS n G m) ρ K X = Y0 (dat m) ρ (fun d ρ1 => ∃ ds, d.items = some ds ∧ Y0 (callV n G ds) ρ1 K X) X := by
  unfold evCallVS
  rw [Y0_bnd]; congr 1; funext d ρ1
  rw [Y0_bnd, Y0_opt]
theorem Y0_mkG {G : Fn} {c : Cl} {ar : List Ar} : Y0 (mkG n G c ar) ρ K X = Y0 (callG n G (.c ρ.length :: ar)) (ρ ++ [.cel .own (.obj c [])]) (fun r ρ1 => match r, ρ1[ρ.length]? with | .d .non, some (.cel .own c') => K (.c c') (ρ1.take ρ.length) | _, _ => False) (fun c pl ρ1 => X c pl (ρ1.take ρ.length)) := by
  unfold Y0 mkG
  dsimp only
  generalize callG n G (.c ρ.length :: ar) (ρ ++ [.cel .own (.obj c [])]) = z
  cases z with
  | none => rfl
  | some x =>
    obtain ⟨r, ρ1⟩ := x
    cases r with
    | er c pl => rfl
    | ok r =>
      cases r with
      | c c => cases ρ1[ρ.length]? <;> rfl
      | d d =>
        cases d with
        | non =>
          dsimp only
          cases ρ1[ρ.length]? with
          | none => rfl
          | some s => cases s with
            | cel k c => cases k <;> rfl
            | _ => rfl
        | _ => cases ρ1[ρ.length]? <;> rfl
theorem Y0_mk {G : Fn} {c : Cl} {ds : List D} : Y0 (evMk n G c as ds) ρ K X = Y0 (evAs as) ρ (fun ar ρ1 => Y0 (mkG n G c (ar ++ ds.map .d)) ρ1 K X) X := by unfold evMk; rw [Y0_bnd]
theorem Y0_mk0 {G : Fn} {c : Cl} {ds : List D} : Y0 (evMk0 n G c as ds) ρ K X = Y0 (evAs as) ρ (fun ar ρ1 => Y0 (mkG n G c (ar ++ ds.map .d)) ρ1 K NX) X := by
  unfold evMk0; rw [Y0_bnd]; congr 1; funext ar ρ1; rw [Y0_noEr]
theorem Y0_meth {G : Fn} {c : Cl} : Y0 (evMeth n G c m as) ρ K X = Y0 (dat m) ρ (fun d ρ1 => match d with | .obj c' xs => c' = c ∧ Y0 (evAs as) ρ1 (fun ar ρ2 => Y0 (callG n G (.d (.obj c' xs) :: ar)) ρ2 K NX) X | _ => False) X := by
  unfold evMeth; rw [Y0_bnd]; congr 1; funext d ρ1
  cases d <;> try rfl
  rename_i c' xs
  dsimp only
  rw [Y0_if]
  by_cases h : c' = c
  · rw [if_pos h, Y0_bnd]
    simp only [h, true_and, Y0_noEr]
  · rw [if_neg h, Y0_fai]; simp [h]
theorem Y0_methS {G : Fn} {c : Cl} : Y0 (evMethS n G c m as) ρ K X = Y0 (dat m) ρ (fun d ρ1 => match d with | .obj c' xs => c' = c ∧ Y0 (evAs as) ρ1 (fun ar ρ2 => Y0 (callG n G (.d (.obj c' xs) :: ar)) ρ2 K X) X | _ => False) X := by
  unfold evMethS; rw [Y0_bnd]; congr 1; funext d ρ1
  cases d <;> try rfl
  rename_i c' xs
  dsimp only
  rw [Y0_if]
  by_cases h : c' = c
  · rw [if_pos h, Y0_bnd]
    simp only [h, true_and]
  · rw [if_neg h, Y0_fai]; simp [h]
theorem Y0_runB {k : Nat} {ss : List Sl} : Y0 (runB k s) ss K X = Y0 s (ss ++ List.replicate k .un) (fun f ρ => match f with | .nx => K (.d .non) (outs ss ρ) | .rt r => K r (outs ss ρ) | _ => False) (fun c pl ρ => X c pl (outs ss ρ)) := by
  unfold Y0 runB
  dsimp only
  generalize s (ss ++ List.replicate k .un) = z
  cases z with
  | none => rfl
  | some x => obtain ⟨r, ρ1⟩ := x; cases r with
    | ok f => cases f <;> rfl
    | er c pl => rfl
theorem Y0_run0 {k : Nat} {ss : List Sl} : Y0 (run0 k s) ss K X = Y0 s (ss ++ List.replicate k .un) (fun f ρ => match f with | .nx => K (.d .non) (outs ss ρ) | .rt r => K r (outs ss ρ) | _ => False) NX := by
  unfold run0; rw [Y0_noEr, Y0_runB]
theorem Y0_raise {c : Cl} : Y0 (evRaise c) ρ KF X = X c none ρ := id rfl
theorem Y0_raiseP {c : Cl} : Y0 (evRaiseP c m) ρ KF X = Y0 (dat m) ρ (fun d ρ1 => fmtD d = true ∧ X c (some d) ρ1) X := by
  unfold evRaiseP
  rw [Y0_bnd]; congr 1; funext d ρ1
  cases e : fmtD d with
  | true =>
    rw [if_pos rfl]
    exact propext ⟨fun h => ⟨rfl, h⟩, fun h => h.2⟩
  | false =>
    rw [if_neg (by decide)]
    exact propext ⟨fun h => h.elim, fun h => by cases h.1⟩
theorem Y0_raise1 {c : Cl} : Y0 (evRaise1 c m) ρ KF X = Y0 m ρ (fun _ ρ1 => X c none ρ1) X := by unfold evRaise1; rw [Y0_bnd]; rfl
theorem Y0_for {it : M (List D)} {tg : Tg} : Y0 (evFor it tg s) ρ KF X = Y0 it ρ (fun xs ρ1 => Y0 (loop tg s xs) ρ1 KF X) X := by unfold evFor; rw [Y0_bnd]
theorem Y0_isi {tbl : List (TyN × Bool)} : Y0 (evIsi tbl m) ρ K X = Y0 (dat m) ρ (fun d ρ1 => ∃ b, (d.tyN.bind fun t => tbl.lookup t) = some b ∧ K (.d (.bl b)) ρ1) X := by
  unfold evIsi; rw [Y0_bnd]; congr 1; funext d ρ1; rw [Y0_opt]
  exact propext ⟨fun ⟨r, e, k⟩ => by obtain ⟨z, e1, e2⟩ := map_some e; subst e2; exact ⟨z, e1, k⟩, fun ⟨z, e, k⟩ => ⟨_, by rw [e]; rfl, k⟩⟩
theorem Y0_tTr : Y0 (tTr m) ρ KB X = Y0 (dat m) ρ (fun d ρ1 => ∃ b, d.truth = some b ∧ KB b ρ1) X := by
  unfold tTr; rw [Y0_bnd]; congr 1; funext d ρ1; rw [Y0_opt]
theorem Y0_fldS {c : Cl} {f : Str} : Y0 (evFldS c j f m) ρ KF X = Y0 (dat m) ρ (fun d ρ1 => match ρ1[j]? with | some (.cel k (.obj c' kvs)) => (c' = c ∧ kvs.length < 1000) ∧ KF .nx (ρ1.set j (.cel k (.obj c' (putD f d kvs)))) | _ => False) X := by
  unfold evFldS; rw [Y0_bnd]; congr 1; funext d ρ1
  unfold Y0
  dsimp only
  generalize ρ1[j]? = z
  cases z with
  | none => rfl
  | some s => cases s with
    | cel k cc => cases cc with
      | obj c' kvs =>
        dsimp only
        by_cases h : c' = c ∧ kvs.length < 1000
        · rw [if_pos h]; simp [h]
        · rw [if_neg h]; simp only [h, false_and]
      | _ => rfl
    | _ => rfl
/-- a statement, then the rest: what holds between them is said -/
theorem Y0_cut {J : List Sl → Prop} (h : Y0 s ρ (fun f ρ1 => f = .nx ∧ J ρ1) X) (k : ∀ ρ1, J ρ1 → Y0 t ρ1 KF X) : Y0 (evSeq s t) ρ KF X := by
  rw [Y0_seq]
  refine h.mono (fun f ρ1 q => ?_) (fun _ _ _ q => q)
  obtain ⟨e, q⟩ := q
  subst e
  exact k ρ1 q
/-- a loop with an invariant over what is still to come -/
theorem Y0_loop {tg : Tg} {I : List D → List Sl → Prop} : ∀ {xs : List D} {ρ : List Sl}, I xs ρ → (∀ x r ρ, I (x :: r) ρ → Y0 (asgT tg x) ρ (fun f ρ1 => f = .nx ∧ Y0 s ρ1 (fun f ρ2 => match f with | .nx => I r ρ2 | .ct => I r ρ2 | .bk => KF .nx ρ2 | .rt v => KF (.rt v) ρ2) X) NX) → (∀ ρ, I [] ρ → KF .nx ρ) → Y0 (loop tg s xs) ρ KF X
  | [], ρ, h, _, e => e ρ h
  | x :: xs, ρ, h, st, e => by
    obtain ⟨f, ρ1, e1, rfl, z⟩ := (st x xs ρ h).mk
    conv => unfold Y0 loop
    rw [e1]
    dsimp only
    unfold Y0 at z
    cases es : s ρ1 with
    | none => rw [es] at z; exact z.elim
    | some y =>
      obtain ⟨r, ρ2⟩ := y
      rw [es] at z
      cases r with
      | er c pl => exact z
      | ok f =>
        cases f with
        | nx => have := Y0_loop (xs := xs) z st e; unfold Y0 at this; exact this
        | ct => have := Y0_loop (xs := xs) z st e; unfold Y0 at this; exact this
        | bk => exact z
        | rt v => exact z
theorem Y0_asgT {tg : Tg} : Y0 (evAsgT tg m) ρ KF X = Y0 (dat m) ρ (fun d ρ1 => Y0 (asgT tg d) ρ1 (fun f ρ2 => f = .nx ∧ KF .nx ρ2) NX) X := by
  unfold evAsgT; rw [Y0_bnd]; congr 1; funext d ρ1
  unfold Y0
  dsimp only
  generalize asgT tg d ρ1 = z
  cases z with
  | none => rfl
  | some x =>
    obtain ⟨r, ρ2⟩ := x
    cases r with
    | er c pl => rfl
    | ok f => cases f <;> simp
theorem Y0_asgTt {ts : List Tg} {xs : List D} : Y0 (asgT (.t ts) (.tup xs)) ρ KF X = Y0 (asgTs ts xs) ρ KF X := by rw [asgT]
theorem Y0_asgTs0 : Y0 (asgTs [] []) ρ KF X = KF .nx ρ := by rw [asgTs]; rfl
theorem Y0_asgTsC {t : Tg} {ts : List Tg} {x : D} {xs : List D} : Y0 (asgTs (t :: ts) (x :: xs)) ρ KF X = Y0 (evSeq (asgT t x) (asgTs ts xs)) ρ KF X := by rw [asgTs]
theorem Y0_part0 {KO : Option Int → List Sl → Prop} : Y0 (dPart none) ρ KO X = KO none ρ := id rfl
theorem Y0_partS {KO : Option Int → List Sl → Prop} : Y0 (dPart (some m)) ρ KO X = Y0 (dat m) ρ (fun d ρ1 => match d with | .int i => KO (some i) ρ1 | _ => False) X := by
  show Y0 (bnd (dat m) _) ρ KO X = _
  rw [Y0_bnd]; congr 1; funext d ρ1; cases d <;> rfl
theorem Y0_sl {l u : Option Ev} : Y0 (evSl m l u) ρ K X = Y0 (dat m) ρ (fun d ρ1 => Y0 (dPart l) ρ1 (fun lo ρ2 => Y0 (dPart u) ρ2 (fun hi ρ3 => match d with
    | .lst xs => K (.c (.lst (cut xs lo hi))) ρ3
    | .sq xs => K (.c (.lst (cut xs lo hi))) ρ3
    | .tup xs => K (.d (.tup (cut xs lo hi))) ρ3
    | .str z => z.length ≤ 16777216 ∧ K (.d (.str (cutS z lo hi))) ρ3
    | _ => False) X) X) X := by
  unfold evSl
  rw [Y0_bnd]; congr 1; funext d ρ1
  rw [Y0_bnd]; congr 1; funext lo ρ2
  rw [Y0_bnd]; congr 1; funext hi ρ3
  cases d <;> try rfl
  dsimp only
  rw [Y0_if]
  split
  · rename_i h; simp only [h, true_and]; rfl
  · rename_i h; simp only [h, false_and]; rfl
theorem Y0_rev : Y0 (evRev m) ρ K X = Y0 (dat m) ρ (fun d ρ1 => ∃ xs, d.litems = some xs ∧ K (.c (.lst xs.reverse)) ρ1) X := by
  unfold evRev
  rw [Y0_bnd]; congr 1; funext d ρ1
  cases d.litems with
  | none => exact propext ⟨fun h => h.elim, fun ⟨_, e, _⟩ => by cases e⟩
  | some xs => exact propext ⟨fun h => ⟨xs, rfl, h⟩, fun ⟨_, e, h⟩ => by cases e; exact h⟩
theorem Y0_vNoT : Y0 (vNoT m) ρ K X = Y0 (dat m) ρ (fun d ρ1 => ∃ b, d.truth = some b ∧ K (.d (.bl (!b))) ρ1) X := by
  unfold vNoT; rw [Y0_bnd]; congr 1; funext d ρ1; rw [Y0_opt]
  exact propext ⟨fun ⟨r, e, k⟩ => by obtain ⟨z, e1, e2⟩ := map_some e; subst e2; exact ⟨z, e1, k⟩, fun ⟨z, e, k⟩ => ⟨_, by rw [e]; rfl, k⟩⟩
theorem Y0_maxD {es : List DE} : Y0 (evMaxD es m) ρ K X = Y0 (evDs es) ρ (fun ds ρ1 => Y0 (dat m) ρ1 (fun d ρ2 => match d with | .int n => ∃ z, gMaxD n ds = some z ∧ K (.d z) ρ2 | _ => False) X) X := by
  unfold evMaxD
  rw [Y0_bnd]; congr 1; funext ds ρ1
  rw [Y0_bnd]; congr 1; funext d ρ2
  cases d <;> try rfl
  dsimp only
  rw [Y0_opt]
  exact propext ⟨fun ⟨r, e, k⟩ => by obtain ⟨z, e1, e2⟩ := map_some e; subst e2; exact ⟨z, e1, k⟩, fun ⟨z, e, k⟩ => ⟨_, by rw [e]; rfl, k⟩⟩
theorem Y0_itO {c : Cl} {KI : List D → List Sl → Prop} : Y0 (itO c i m) ρ KI X = Y0 (dat m) ρ (fun d ρ1 => match d with | .obj c' xs => c' = c ∧ (match xs[i]? with | some (.tup ys) => KI ys ρ1 | _ => False) | _ => False) X := by
  unfold itO
  rw [Y0_bnd]; congr 1; funext d ρ1
  cases d <;> try rfl
  dsimp only
  rw [Y0_if]
  split
  · rename_i h
    simp only [h, true_and]
    rename_i xs
    cases xs[i]? with
    | none => rfl
    | some d => cases d <;> rfl
  · rename_i h; simp only [h, false_and]; rfl
/-- a comprehension whose element is a function of the item -/
theorem Y0_lc {vs : List Nat} {it : M (List D)} {tg : Tg} {e : Ev} : Y0 (evLc vs it tg u e) ρ K X = Y0 it ρ (fun xs ρ1 => okOwn ρ1 vs = true ∧ Y0 (lcGo vs tg u e xs []) (wipeR ρ1 vs) (fun acc ρ2 => K (.c (.lst acc)) (restR ρ1 ρ2 vs)) NX) X := by
  unfold evLc
  rw [Y0_bnd]; congr 1; funext xs ρ1
  unfold lcRun
  conv => lhs; unfold Y0
  by_cases h : okOwn ρ1 vs = true
  · simp only [h, if_true, true_and]
    unfold Y0
    cases lcGo vs tg u e xs [] (wipeR ρ1 vs) with
    | none => rfl
    | some x => obtain ⟨r, ρ2⟩ := x; cases r <;> rfl
  · have h' : okOwn ρ1 vs = false := by simpa using h
    simp [h']
/-- .. item by item: f x is none where the test fails -/
theorem Y0_lcGo {vs : List Nat} {tg : Tg} {e : Ev} {f : D → Option D} {ρ0 : List Sl} {KS : List D → List Sl → Prop} {P : D → Prop} (st : ∀ (x : D) (acc : List D), P x → acc.length < 16777216 → Y0 (asgT tg x) ρ0 (fun g ρ1 => g = .nx ∧ Y0 (noEr u) ρ1 (fun b ρ2 => if b = true then Y0 (dat (noEr e)) ρ2 (fun d ρ3 => f x = some d ∧ wipeR ρ3 vs = ρ0) NX else f x = none ∧ wipeR ρ2 vs = ρ0) NX) NX) :
    ∀ (xs acc : List D), (∀ x ∈ xs, P x) → acc.length + xs.length ≤ 16777216 → KS (acc ++ xs.filterMap f) ρ0 → Y0 (lcGo vs tg u e xs acc) ρ0 KS X
  | [], acc, _, _, h => by rw [List.filterMap_nil, List.append_nil] at h; exact h
  | x :: xs, acc, hp, hl, h => by
    rw [List.length_cons] at hl
    obtain ⟨g, ρ1, e1, rfl, z⟩ := (st x acc (hp x List.mem_cons_self) (by omega)).mk
    obtain ⟨b, ρ2, e2, z⟩ := z.mk
    have hp' : ∀ y ∈ xs, P y := fun y hy => hp y (List.mem_cons_of_mem _ hy)
    conv => unfold Y0 lcGo
    rw [e1]
    show Y0 (bnd _ _) ρ1 KS X
    rw [Y0_bnd]
    refine Y0.of e2 ?_
    cases b with
    | false =>
      simp only [Bool.false_eq_true, if_false] at z ⊢
      obtain ⟨z1, z2⟩ := z
      have : Y0 (fun ρ => lcGo vs tg u e xs acc (wipeR ρ vs)) ρ2 KS X = Y0 (lcGo vs tg u e xs acc) (wipeR ρ2 vs) KS X := rfl
      rw [this, z2]
      refine Y0_lcGo st xs acc hp' (by omega) ?_
      rw [List.filterMap_cons, z1] at h
      exact h
    | true =>
      simp only [if_true] at z ⊢
      obtain ⟨d, ρ3, e3, z1, z2⟩ := z.mk
      rw [Y0_bnd]
      refine Y0.of e3 ?_
      rw [if_pos (by omega)]
      have : Y0 (fun ρ => lcGo vs tg u e xs (acc ++ [d]) (wipeR ρ vs)) ρ3 KS X = Y0 (lcGo vs tg u e xs (acc ++ [d])) (wipeR ρ3 vs) KS X := rfl
      rw [this, z2]
      refine Y0_lcGo st xs (acc ++ [d]) hp' (by rw [List.length_append, List.length_singleton]; omega) ?_
      rw [List.filterMap_cons, z1] at h
      simpa using h
/-- .. with an invariant: the element may change cells -/
theorem Y0_lcI {vs : List Nat} {tg : Tg} {e : Ev} {KS : List D → List Sl → Prop} {I : List D → List D → List Sl → Prop} {xs acc : List D} (h : I xs acc ρ)
    (st : ∀ (x : D) (r acc : List D) (ρ : List Sl), I (x :: r) acc ρ → acc.length < 16777216 ∧ Y0 (asgT tg x) ρ (fun g ρ1 => g = .nx ∧ Y0 (noEr u) ρ1 (fun b ρ2 => if b = true then Y0 (dat (noEr e)) ρ2 (fun d ρ3 => I r (acc ++ [d]) (wipeR ρ3 vs)) NX else I r acc (wipeR ρ2 vs)) NX) NX)
    (fin : ∀ (acc : List D) (ρ : List Sl), I [] acc ρ → KS acc ρ) : Y0 (lcGo vs tg u e xs acc) ρ KS X := by
  induction xs generalizing acc ρ with
  | nil => exact fin acc ρ h
  | cons x xs ih =>
    obtain ⟨hl, z⟩ := st x xs acc ρ h
    obtain ⟨g, ρ1, e1, rfl, z⟩ := z.mk
    obtain ⟨b, ρ2, e2, z⟩ := z.mk
    conv => unfold Y0 lcGo
    rw [e1]
    show Y0 (bnd _ _) ρ1 KS X
    rw [Y0_bnd]
    refine Y0.of e2 ?_
    cases b with
    | false =>
      simp only [Bool.false_eq_true, if_false] at z ⊢
      have : Y0 (fun ρ => lcGo vs tg u e xs acc (wipeR ρ vs)) ρ2 KS X = Y0 (lcGo vs tg u e xs acc) (wipeR ρ2 vs) KS X := rfl
      rw [this]
      exact ih z
    | true =>
      simp only [if_true] at z ⊢
      obtain ⟨d, ρ3, e3, z⟩ := z.mk
      rw [Y0_bnd]
      refine Y0.of e3 ?_
      rw [if_pos (by omega)]
      have : Y0 (fun ρ => lcGo vs tg u e xs (acc ++ [d]) (wipeR ρ vs)) ρ3 KS X = Y0 (lcGo vs tg u e xs (acc ++ [d])) (wipeR ρ3 vs) KS X := rfl
      rw [this]
      exact ih z
theorem Y0_lc2 {vs vs1 : List Nat} {it it1 : M (List D)} {tg tg1 : Tg} {v : M Bool} {e : Ev} : Y0 (evLc2 vs it tg u it1 vs1 tg1 v e) ρ K X = Y0 it ρ (fun xs ρ1 => okOwn ρ1 vs = true ∧ Y0 (lcGo2 vs tg u it1 vs1 tg1 v e xs []) (wipeR ρ1 vs) (fun acc ρ2 => K (.c (.lst acc)) (restR ρ1 ρ2 vs)) NX) X := by
  unfold evLc2
  rw [Y0_bnd]; congr 1; funext xs ρ1
  unfold lcRun
  conv => lhs; unfold Y0
  by_cases h : okOwn ρ1 vs = true
  · simp only [h, if_true, true_and]
    unfold Y0
    cases lcGo2 vs tg u it1 vs1 tg1 v e xs [] (wipeR ρ1 vs) with
    | none => rfl
    | some x => obtain ⟨r, ρ2⟩ := x; cases r <;> rfl
  · have h' : okOwn ρ1 vs = false := by simpa using h
    simp [h']
/-- exceptions -/
theorem Y0.okE {α : Type} {m : M α} {ρ ρ1 : List Sl} {a : α} {K : α → List Sl → Prop} {X : XC} (e : m ρ = some (.ok a, ρ1)) : Y0 m ρ K X = K a ρ1 := by unfold Y0; rw [e]
theorem Y0.erE {α : Type} {m : M α} {ρ ρ1 : List Sl} {c : Cl} {pl : Option D} {K : α → List Sl → Prop} {X : XC} (e : m ρ = some (.er c pl, ρ1)) : Y0 m ρ K X = X c pl ρ1 := by unfold Y0; rw [e]
theorem Y0.noE {α : Type} {m : M α} {ρ : List Sl} {K : α → List Sl → Prop} {X : XC} (e : m ρ = none) : Y0 m ρ K X = False := by unfold Y0; rw [e]
theorem Y0.cg {α : Type} {m m' : M α} {ρ ρ' : List Sl} {K : α → List Sl → Prop} {X : XC} (e : m ρ = m' ρ') : Y0 m ρ K X = Y0 m' ρ' K X := by unfold Y0; rw [e]
theorem Y0_suiteO : Y0 (suiteO t) ρ KF X = (noExn ρ = true ∧ Y0 t ρ (fun f ρ2 => noExn ρ2 = true ∧ KF f ρ2) NX) := by
  by_cases h : noExn ρ = true
  · cases e : t ρ with
    | none => rw [Y0.noE (m := suiteO t) (by unfold suiteO; rw [if_pos h, e]), Y0.noE e]; simp
    | some x =>
      obtain ⟨r, ρ2⟩ := x
      cases r with
      | er c pl => rw [Y0.noE (m := suiteO t) (by unfold suiteO; rw [if_pos h, e]), Y0.erE e]; simp
      | ok f =>
        rw [Y0.okE e]
        by_cases h2 : noExn ρ2 = true
        · rw [Y0.okE (m := suiteO t) (a := f) (ρ1 := ρ2) (by unfold suiteO; rw [if_pos h, e]; simp only [h2, if_true])]; simp [h, h2]
        · rw [Y0.noE (m := suiteO t) (by unfold suiteO; rw [if_pos h, e]; simp only [h2]; rfl)]; simp [h2]
  · rw [Y0.noE (m := suiteO t) (by unfold suiteO; rw [if_neg h])]; simp [h]
theorem Y0_suiteA {c : Cl} {pl : Option D} : Y0 (suiteA i c pl t) ρ KF X = (noExn ρ = true ∧ ∃ z, ρ[i]? = some z ∧ canSet z = true ∧ Y0 t (ρ.set i (.exn c pl)) (fun f ρ2 => noExn (ρ2.set i .un) = true ∧ KF f (ρ2.set i .un)) NX) := by
  by_cases h : noExn ρ = true
  · cases hz : ρ[i]? with
    | none => rw [Y0.noE (m := suiteA i c pl t) (by unfold suiteA; rw [if_pos h, hz])]; simp
    | some z =>
      by_cases hc : canSet z = true
      · have e0 : suiteA i c pl t ρ = (match t (ρ.set i (.exn c pl)) with | some (.ok f, ρ2) => if noExn (ρ2.set i .un) = true then some (.ok f, ρ2.set i .un) else none | _ => none) := by
          unfold suiteA
          rw [if_pos h, hz]
          cases z with
          | cel k cc => cases k with
            | own => rfl
            | par => cases hc
          | _ => rfl
        have right : (noExn ρ = true ∧ ∃ z', some z = some z' ∧ canSet z' = true ∧ Y0 t (ρ.set i (.exn c pl)) (fun f ρ2 => noExn (ρ2.set i .un) = true ∧ KF f (ρ2.set i .un)) NX) = Y0 t (ρ.set i (.exn c pl)) (fun f ρ2 => noExn (ρ2.set i .un) = true ∧ KF f (ρ2.set i .un)) NX := propext ⟨fun ⟨_, _, _, _, q⟩ => q, fun q => ⟨h, z, rfl, hc, q⟩⟩
        rw [right]
        cases e : t (ρ.set i (.exn c pl)) with
        | none => rw [e] at e0; rw [Y0.noE e0, Y0.noE e]
        | some x =>
          obtain ⟨r, ρ2⟩ := x
          cases r with
          | er c pl => rw [e] at e0; rw [Y0.noE e0, Y0.erE e]
          | ok f =>
            rw [e] at e0
            rw [Y0.okE e]
            by_cases h2 : noExn (ρ2.set i .un) = true
            · rw [Y0.okE (e0.trans (if_pos h2))]; simp [h2]
            · rw [Y0.noE (e0.trans (if_neg h2))]; simp [h2]
      · have : suiteA i c pl t ρ = none := by
          unfold suiteA
          rw [if_pos h, hz]
          cases z with
          | cel k cc => cases k with
            | own => exact absurd rfl hc
            | par => rfl
          | _ => exact absurd rfl hc
        rw [Y0.noE this]
        exact propext ⟨fun q => q.elim, fun ⟨_, _, e, q, _⟩ => by cases e; exact hc q⟩
  · rw [Y0.noE (m := suiteA i c pl t) (by unfold suiteA; rw [if_neg h])]; simp [h]
theorem Y0_tryO {cat : List (Cl × Bool)} : Y0 (evTryO s cat t) ρ KF X = Y0 s ρ KF (fun c pl ρ1 => match cat.lookup c with | some true => noExn ρ1 = true ∧ Y0 t ρ1 (fun f ρ2 => noExn ρ2 = true ∧ KF f ρ2) NX | some false => X c pl ρ1 | none => False) := by
  cases e : s ρ with
  | none => rw [Y0.noE e, Y0.noE (m := evTryO s cat t) (by unfold evTryO; rw [e])]
  | some x =>
    obtain ⟨r, ρ1⟩ := x
    cases r with
    | ok f => rw [Y0.okE e, Y0.okE (m := evTryO s cat t) (a := f) (ρ1 := ρ1) (by unfold evTryO; rw [e])]
    | er c pl =>
      rw [Y0.erE e]
      have e0 : evTryO s cat t ρ = (match cat.lookup c with | some true => suiteO t ρ1 | some false => some (.er c pl, ρ1) | none => none) := by unfold evTryO; rw [e] <;> rfl
      cases el : cat.lookup c with
      | none => rw [el] at e0; rw [Y0.noE e0]
      | some b =>
        rw [el] at e0
        cases b with
        | false => rw [Y0.erE e0]
        | true => rw [Y0.cg (m' := suiteO t) (ρ' := ρ1) e0, Y0_suiteO]
theorem Y0_tryA {cat : List (Cl × Bool)} : Y0 (evTryA i s cat t) ρ KF X = Y0 s ρ KF (fun c pl ρ1 => match cat.lookup c with
    | some true => noExn ρ1 = true ∧ ∃ z, ρ1[i]? = some z ∧ canSet z = true ∧ Y0 t (ρ1.set i (.exn c pl)) (fun f ρ2 => noExn (ρ2.set i .un) = true ∧ KF f (ρ2.set i .un)) NX
    | some false => X c pl ρ1
    | none => False) := by
  cases e : s ρ with
  | none => rw [Y0.noE e, Y0.noE (m := evTryA i s cat t) (by unfold evTryA; rw [e])]
  | some x =>
    obtain ⟨r, ρ1⟩ := x
    cases r with
    | ok f => rw [Y0.okE e, Y0.okE (m := evTryA i s cat t) (a := f) (ρ1 := ρ1) (by unfold evTryA; rw [e])]
    | er c pl =>
      rw [Y0.erE e]
      have e0 : evTryA i s cat t ρ = (match cat.lookup c with | some true => suiteA i c pl t ρ1 | some false => some (.er c pl, ρ1) | none => none) := by unfold evTryA; rw [e] <;> rfl
      cases el : cat.lookup c with
      | none => rw [el] at e0; rw [Y0.noE e0]
      | some b =>
        rw [el] at e0
        cases b with
        | false => rw [Y0.erE e0]
        | true => rw [Y0.cg (m' := suiteA i c pl t) (ρ' := ρ1) e0, Y0_suiteA]
theorem Y0_tryM {cs : List Clp} : Y0 (evTryM s cs) ρ KF X = Y0 s ρ KF (fun c pl ρ1 => Y0 (pick cs c pl) ρ1 KF X) := by
  cases e : s ρ with
  | none => rw [Y0.noE e, Y0.noE (m := evTryM s cs) (by unfold evTryM; rw [e])]
  | some x =>
    obtain ⟨r, ρ1⟩ := x
    cases r with
    | ok f => rw [Y0.okE e, Y0.okE (m := evTryM s cs) (a := f) (ρ1 := ρ1) (by unfold evTryM; rw [e])]
    | er c pl =>
      rw [Y0.erE e]
      have e0 : evTryM s cs ρ = pick cs c pl ρ1 := by unfold evTryM; rw [e] <;> rfl
      rw [Y0.cg e0]
theorem Y0_pick0 {c : Cl} {pl : Option D} : Y0 (pick [] c pl) ρ KF X = X c pl ρ := id rfl
theorem Y0_pickC {c : Cl} {pl : Option D} {cat : List (Cl × Bool)} {cs : List Clp} : Y0 (pick ((i, cat, t) :: cs) c pl) ρ KF X = match cat.lookup c with
    | some true => Y0 (suiteA i c pl t) ρ KF X
    | some false => Y0 (pick cs c pl) ρ KF X
    | none => False := by
  have e0 : pick ((i, cat, t) :: cs) c pl ρ = (match cat.lookup c with | some true => suiteA i c pl t ρ | some false => pick cs c pl ρ | none => none) := rfl
  cases el : cat.lookup c with
  | none => rw [el] at e0; rw [Y0.noE e0]
  | some b =>
    rw [el] at e0
    cases b with
    | true => exact Y0.cg e0
    | false => exact Y0.cg e0
theorem Y0_isE {tbl : List (TyN × Bool)} : Y0 (evIsE i tbl) ρ K X = match ρ[i]? with | some (.exn c _) => ∃ b, tbl.lookup (.o c) = some b ∧ K (.d (.bl b)) ρ | _ => False := by
  unfold Y0 evIsE
  cases ρ[i]? with
  | none => rfl
  | some s => cases s with
    | exn c pl =>
      dsimp only
      cases tbl.lookup (.o c) with
      | none => exact propext ⟨fun h => h.elim, fun ⟨_, e, _⟩ => by cases e⟩
      | some b => exact propext ⟨fun h => ⟨b, rfl, h⟩, fun ⟨_, e, h⟩ => by cases e; exact h⟩
    | _ => rfl
theorem Y0_js0 {acc : Str} {KZ : Str → List Sl → Prop} : Y0 (evJs [] acc) ρ KZ X = KZ acc ρ := id rfl
theorem Y0_jsC {ms : List Ev} {acc : Str} {KZ : Str → List Sl → Prop} : Y0 (evJs (m :: ms) acc) ρ KZ X = Y0 (dat m) ρ (fun d ρ1 => match d with | .str y => (acc ++ y).length ≤ 16777216 ∧ Y0 (evJs ms (acc ++ y)) ρ1 KZ X | _ => False) X := by
  show Y0 (bnd (dat m) _) ρ KZ X = _
  rw [Y0_bnd]; congr 1; funext d ρ1
  cases d <;> try rfl
  rename_i y
  show Y0 (if (acc ++ y).length ≤ 16777216 then evJs ms (acc ++ y) else fai) ρ1 KZ X = _
  rw [Y0_if]
  by_cases h : (acc ++ y).length ≤ 16777216
  · rw [if_pos h]; exact propext ⟨fun q => ⟨h, q⟩, fun q => q.2⟩
  · rw [if_neg h]; exact propext ⟨fun q => q.elim, fun q => h q.1⟩
theorem Y0_jn {ms : List Ev} : Y0 (evJn ms) ρ K X = Y0 (evJs ms Str.empty) ρ (fun s ρ1 => K (.d (.str s)) ρ1) X := by unfold evJn; rw [Y0_bnd]; rfl
theorem ne_0 : noExn [] = true := id rfl
theorem ne_d {d : D} : noExn (.dat d :: ρ) = noExn ρ := id rfl
theorem ne_u : noExn (.un :: ρ) = noExn ρ := id rfl
theorem ne_c {k : CK} {c : CC} : noExn (.cel k c :: ρ) = noExn ρ := id rfl
theorem ne_x {c : Cl} {pl : Option D} : noExn (.exn c pl :: ρ) = false := id rfl
/-! dicts -/
theorem Y0_isK {P : Rv → List Sl → Prop} : Y0 (isK j) ρ P X = match ρ[j]? with | some (.cel _ (.dK _)) => P (.d .non) ρ | _ => False := by
  unfold Y0 isK
  cases ρ[j]? with
  | none => rfl
  | some s => cases s with
    | cel k c => cases c <;> rfl
    | _ => rfl
theorem Y0_getK {f : List (Key × D) → Option D} : Y0 (getK j f) ρ K X = match ρ[j]? with | some (.cel _ (.dK kvs)) => ∃ d, f kvs = some d ∧ K (.d d) ρ | _ => False := by
  unfold Y0 getK
  cases ρ[j]? with
  | none => rfl
  | some s => cases s with
    | cel k c => cases c with
      | dK kvs =>
        dsimp only
        cases f kvs with
        | none => exact propext ⟨fun h => h.elim, fun ⟨_, e, _⟩ => by cases e⟩
        | some d => exact propext ⟨fun h => ⟨d, rfl, h⟩, fun ⟨_, e, h⟩ => by cases e; exact h⟩
      | _ => rfl
    | _ => rfl
theorem Y0_dget : Y0 (evDGet j m) ρ K X = match ρ[j]? with | some (.cel _ (.dK _)) => Y0 (dat m) ρ (fun k ρ1 => match ρ1[j]? with | some (.cel _ (.dK kvs)) => ∃ d, k.key.bind (dval kvs) = some d ∧ K (.d d) ρ1 | _ => False) X | _ => False := by
  unfold evDGet
  rw [Y0_bnd, Y0_isK]
  simp only [Y0_bnd, Y0_getK]
theorem Y0_dget2 : Y0 (evDGet2 j m a) ρ K X = match ρ[j]? with | some (.cel _ (.dK _)) => Y0 (dat m) ρ (fun k ρ1 => Y0 (dat a) ρ1 (fun d ρ2 => match ρ2[j]? with | some (.cel _ (.dK kvs)) => ∃ z, k.key.map (fun k => (dval kvs k).getD d) = some z ∧ K (.d z) ρ2 | _ => False) X) X | _ => False := by
  unfold evDGet2
  rw [Y0_bnd, Y0_isK]
  simp only [Y0_bnd, Y0_getK]
theorem Y0_dput : Y0 (evDPut j m a) ρ KF X = Y0 (dat a) ρ (fun d ρ1 => match ρ1[j]? with | some (.cel _ (.dK _)) => Y0 (dat m) ρ1 (fun k ρ2 => (match ρ2[j]? with | some (.cel c (.dK kvs)) => ∃ k', k.key = some k' ∧ kvs.length < 16777216 ∧ KF .nx (ρ2.set j (.cel c (.dK (dput kvs k' d)))) | _ => False)) X | _ => False) X := by
  unfold evDPut
  rw [Y0_bnd]; congr 1; funext d ρ1
  rw [Y0_bnd, Y0_isK]
  cases ρ1[j]? with
  | none => rfl
  | some s => cases s with
    | cel k c => cases c with
      | dK kvs =>
        dsimp only
        rw [Y0_bnd]; congr 1; funext kk ρ2
        unfold Y0
        dsimp only
        generalize ρ2[j]? = z
        cases z with
        | none => rfl
        | some s => cases s with
          | cel k c => cases c with
            | dK kvs =>
              dsimp only
              cases kk.key with
              | none => exact propext ⟨fun h => h.elim, fun ⟨_, e, _⟩ => (by cases e)⟩
              | some k' =>
                dsimp only
                by_cases h : kvs.length < 16777216
                · rw [if_pos h]; exact propext ⟨fun q => ⟨k', rfl, h, q⟩, fun ⟨_, e, _, q⟩ => by cases e; exact q⟩
                · rw [if_neg h]; exact propext ⟨fun q => q.elim, fun ⟨_, _, q, _⟩ => h q⟩
            | _ => rfl
          | _ => rfl
      | _ => rfl
    | _ => rfl
theorem Y0_sortDR : Y0 (evSortDR j) ρ K X = match ρ[j]? with | some (.cel _ (.dK kvs)) => ∃ ks, keysI kvs = some ks ∧ K (.c (.lst ((down ks).map D.int))) ρ | _ => False := by
  unfold Y0 evSortDR
  cases ρ[j]? with
  | none => rfl
  | some s => cases s with
    | cel k c => cases c with
      | dK kvs =>
        dsimp only
        cases keysI kvs with
        | none => exact propext ⟨fun h => h.elim, fun ⟨_, e, _⟩ => by cases e⟩
        | some d => exact propext ⟨fun h => ⟨d, rfl, h⟩, fun ⟨_, e, h⟩ => by cases e; exact h⟩
      | _ => rfl
    | _ => rfl
theorem dval_put {kvs : List (Key × D)} {k k' : Key} {d : D} : dval (dput kvs k d) k' = if k' = k then some d else dval kvs k' := by
  induction kvs with
  | nil =>
    unfold dput dval
    by_cases e : k' = k
    · subst e; simp
    · simp [e, Ne.symm e]
  | cons p r ih =>
    obtain ⟨k0, d0⟩ := p
    by_cases e0 : k0 = k
    · subst e0
      have : dput ((k0, d0) :: r) k0 d = (k0, d) :: r.map (fun kv => if kv.1 = k0 then (kv.1, d) else kv) := by unfold dput; simp
      rw [this]
      by_cases e : k' = k0
      · subst e; simp [dval]
      · rw [if_neg e]
        have rest : dval (r.map (fun kv => if kv.1 = k0 then (kv.1, d) else kv)) k' = dval r k' := by
          clear ih this
          induction r with
          | nil => rfl
          | cons q r ih =>
            obtain ⟨k1, d1⟩ := q
            by_cases e1 : k1 = k'
            · subst e1; simp [dval, e]
            · by_cases e2 : k1 = k0
              · subst e2; simpa [dval, e1] using ih
              · simpa [dval, e1, e2] using ih
        have : ∀ (d : D) (l : List (Key × D)), dval ((k0, d) :: l) k' = dval l k' := fun d l => by simp [dval, Ne.symm e]
        rw [this, this, rest]
    · have : dput ((k0, d0) :: r) k d = (k0, d0) :: dput r k d := by
        unfold dput
        simp only [List.any_cons, e0, decide_false, Bool.false_or]
        split <;> simp [e0]
      rw [this]
      by_cases e1 : k0 = k'
      · subst e1; simp [dval, e0]
      · have : ∀ (l : List (Key × D)), dval ((k0, d0) :: l) k' = dval l k' := fun l => by simp [dval, e1]
        rw [this, this, ih]
theorem dput_in {kvs : List (Key × D)} {k : Key} {v : D} (h : k ∈ kvs.map (·.1)) : (dput kvs k v).map (·.1) = kvs.map (·.1) := by
  unfold dput
  have h1 : (kvs.any fun kv => decide (kv.1 = k)) = true := by
    rw [List.any_eq_true]
    obtain ⟨kv, a, b⟩ := List.mem_map.mp h
    exact ⟨kv, a, by simp [b]⟩
  rw [if_pos h1, List.map_map]
  refine List.map_congr_left fun kv _ => ?_
  show (if kv.1 = k then (kv.1, v) else kv).1 = kv.1
  split <;> rfl
theorem dput_out {kvs : List (Key × D)} {k : Key} {v : D} (h : ¬ k ∈ kvs.map (·.1)) : (dput kvs k v).map (·.1) = kvs.map (·.1) ++ [k] := by
  unfold dput
  have h1 : ¬ (kvs.any fun kv => decide (kv.1 = k)) = true := by
    rw [List.any_eq_true]
    rintro ⟨kv, a, b⟩
    exact h (List.mem_map.mpr ⟨kv, a, by simpa using b⟩)
  rw [if_neg h1, List.map_append]
  rfl
theorem keysI_of : ∀ {kvs : List (Key × D)} {ws : List Int}, kvs.map (·.1) = ws.map Sum.inl → keysI kvs = some ws
  | [], ws, h => by cases ws with
    | nil => rfl
    | cons => cases h
  | (k, d) :: kvs, ws, h => by
    cases ws with
    | nil => cases h
    | cons w ws =>
      (rw [List.map_cons, List.map_cons] at h)
      injection h with h1 h2
      have h1 : k = Sum.inl w := h1
      subst h1
      show (keysI kvs).map (w :: ·) = _
      rw [keysI_of h2]
      rfl
theorem Y0_asgN {d : D} : Y0 (asgT (.n i) d) ρ KF X = Y0 (setD i d) ρ KF X := id rfl
theorem Y0_itL {KI : List D → List Sl → Prop} : Y0 (itL m) ρ KI X = Y0 (dat m) ρ (fun d ρ1 => ∃ xs, d.litems = some xs ∧ KI xs ρ1) X := by unfold itL; rw [Y0_bnd]; congr 1; funext d ρ1; rw [Y0_opt]
theorem Y0_itT {KI : List D → List Sl → Prop} : Y0 (itT m) ρ KI X = Y0 (dat m) ρ (fun d ρ1 => ∃ xs, d.titems = some xs ∧ KI xs ρ1) X := by unfold itT; rw [Y0_bnd]; congr 1; funext d ρ1; rw [Y0_opt]
theorem Y0_itET {KI : List D → List Sl → Prop} : Y0 (itET m) ρ KI X = Y0 (dat m) ρ (fun d ρ1 => match d with | .tup xs => KI (enumD xs) ρ1 | _ => False) X := by
  unfold itET; rw [Y0_bnd]; congr 1; funext d ρ1
  cases d <;> rfl
theorem Y0_itEL {KI : List D → List Sl → Prop} : Y0 (itEL m) ρ KI X = Y0 (dat m) ρ (fun d ρ1 => match d with | .lst xs => KI (enumD xs) ρ1 | .sq xs => KI (enumD xs) ρ1 | _ => False) X := by
  unfold itEL; rw [Y0_bnd]; congr 1; funext d ρ1
  cases d <;> rfl
theorem Y0_cnt {o e : Ev} : Y0 (evCnt o e) ρ K X = Y0 (dat o) ρ (fun x ρ1 => match x with | .str a => Y0 (dat e) ρ1 (fun y ρ2 => match y with | .str b => K (.d (.int (Txt.count a b))) ρ2 | _ => False) X | _ => False) X := by
  unfold evCnt; rw [Y0_bnd]; congr 1; funext x ρ1
  cases x <;> try rfl
  dsimp only
  rw [Y0_bnd]; congr 1; funext y ρ2
  cases y <;> rfl
theorem Y0_itZ {KI : List D → List Sl → Prop} : Y0 (itZ a b) ρ KI X = Y0 (dat a) ρ (fun d ρ1 => Y0 (dat b) ρ1 (fun d2 ρ2 => match d, d2 with | .lst xs, .lst ys => KI (zipD xs ys) ρ2 | .tup xs, .tup ys => KI (zipD xs ys) ρ2 | _, _ => False) X) X := by
  unfold itZ; rw [Y0_bnd]; congr 1; funext d ρ1
  rw [Y0_bnd]; congr 1; funext d2 ρ2
  cases d <;> cases d2 <;> rfl
theorem Y0_itZS {KI : List D → List Sl → Prop} : Y0 (itZS a b) ρ KI X = Y0 (dat a) ρ (fun d ρ1 => Y0 (dat b) ρ1 (fun d2 ρ2 => match d, d2 with | .str s, .str t => KI (zipD (chars s) (chars t)) ρ2 | _, _ => False) X) X := by
  unfold itZS; rw [Y0_bnd]; congr 1; funext d ρ1
  rw [Y0_bnd]; congr 1; funext d2 ρ2
  cases d <;> cases d2 <;> rfl
theorem Y0_itR3 {KI : List D → List Sl → Prop} {c : Ev} : Y0 (itR3 a b c) ρ KI X = Y0 (dat a) ρ (fun d ρ1 => Y0 (dat b) ρ1 (fun d2 ρ2 => Y0 (dat c) ρ2 (fun d3 ρ3 => match d, d2, d3 with | .int i, .int j, .int k => stepOk i j k ∧ KI (rng3D i k (Builtin.Range.rangeSize i j k).toNat) ρ3 | _, _, _ => False) X) X) X := by
  unfold itR3; rw [Y0_bnd]; congr 1; funext d ρ1
  rw [Y0_bnd]; congr 1; funext d2 ρ2
  rw [Y0_bnd]; congr 1; funext d3 ρ3
  cases d <;> first | rfl | (cases d2 <;> first | rfl | (cases d3 <;> try rfl))
  dsimp only
  rw [Y0_if]
  split
  · rename_i h; simp only [h, true_and]; rfl
  · rename_i h; simp only [h, false_and]; rfl
theorem Y0_itS {KI : List D → List Sl → Prop} : Y0 (itS m) ρ KI X = Y0 (dat m) ρ (fun d ρ1 => ∃ xs, d.sitems = some xs ∧ KI xs ρ1) X := by
  unfold itS; rw [Y0_bnd]; congr 1; funext d ρ1; rw [Y0_opt]
theorem Y0_join : Y0 (evJoin a b) ρ K X = Y0 (dat a) ρ (fun x ρ1 => match x with | .str z => Y0 (dat b) ρ1 (fun d ρ2 => ∃ r, dJoin z d = some r ∧ K (.d r) ρ2) X | _ => False) X := by
  unfold evJoin; rw [Y0_bnd]; congr 1; funext x ρ1
  cases x <;> try rfl
  dsimp only
  rw [Y0_bnd]; congr 1; funext d ρ2; rw [Y0_opt]
  exact propext ⟨fun ⟨r, e, k⟩ => by obtain ⟨z, e1, e2⟩ := map_some e; subst e2; exact ⟨z, e1, k⟩, fun ⟨z, e, k⟩ => ⟨_, by rw [e]; rfl, k⟩⟩
theorem Y0_xf {c : Cl} : Y0 (evXf i c) ρ K X = match ρ[i]? with | some (.exn c' (some d)) => c' = c ∧ K (.d d) ρ | _ => False := by
  unfold Y0 evXf
  cases ρ[i]? with
  | none => rfl
  | some s => cases s with
    | exn c' pl => cases pl with
      | none => rfl
      | some d =>
        dsimp only
        by_cases h : c' = c
        · rw [if_pos h]; simp only [h, true_and]
        · rw [if_neg h]; simp only [h, false_and]
    | _ => rfl
theorem Y0_itR1 {KI : List D → List Sl → Prop} : Y0 (itR1 m) ρ KI X = Y0 (dat m) ρ (fun d ρ1 => match d with | .int j => (-(2 ^ 62) ≤ j ∧ j < 2 ^ 62) ∧ KI (rngD 0 j.toNat) ρ1 | _ => False) X := by
  unfold itR1; rw [Y0_bnd]; congr 1; funext d ρ1
  cases d <;> try rfl
  dsimp only
  rw [Y0_if]
  split
  · rename_i h; simp only [h, true_and]; rfl
  · rename_i h; simp only [h, false_and]; rfl
theorem Y0_itR2 {KI : List D → List Sl → Prop} : Y0 (itR2 a b) ρ KI X = Y0 (dat a) ρ (fun d ρ1 => Y0 (dat b) ρ1 (fun d2 ρ2 => match d, d2 with | .int i, .int j => (-(2 ^ 62) ≤ i ∧ i < 2 ^ 62 ∧ -(2 ^ 62) ≤ j ∧ j < 2 ^ 62) ∧ KI (rngD i (j - i).toNat) ρ2 | _, _ => False) X) X := by
  unfold itR2; rw [Y0_bnd]; congr 1; funext d ρ1
  rw [Y0_bnd]; congr 1; funext d2 ρ2
  cases d <;> cases d2 <;> try rfl
  dsimp only
  rw [Y0_if]
  split
  · rename_i h; simp only [h, true_and]; rfl
  · rename_i h; simp only [h, false_and]; rfl
end
end PL
end
section
namespace PL
open PySem PySem.Spec PyProof.Rows L2
/-! ### the same, closed: simp stays out of what comes behind -/
structure Lck {α : Type} (K : α → List Sl → Prop) (X : XC) : Type where
@[irreducible] def Y {α : Type} (m : M α) (ρ : List Sl) (K : α → List Sl → Prop) (X : XC) (_ : Lck K X := ⟨⟩) : Prop := Y0 m ρ K X
theorem Y_eq {α : Type} {m : M α} {ρ : List Sl} {K : α → List Sl → Prop} {X : XC} {l : Lck K X} : Y m ρ K X l = Y0 m ρ K X := by unfold Y; rfl
section
variable {α β : Type} {ρ : List Sl} {X X' : XC}
theorem Y.mono {m : M α} {K K' : α → List Sl → Prop} (h : Y m ρ K X) (k : ∀ a ρ1, K a ρ1 → K' a ρ1) (x : ∀ c pl ρ1, X c pl ρ1 → X' c pl ρ1) : Y m ρ K' X' := by
  simp only [Y_eq] at *
  exact Y0.mono h k x
theorem Y.mk {m : M α} {K : α → List Sl → Prop} (h : Y m ρ K NX) : ∃ a ρ1, m ρ = some (.ok a, ρ1) ∧ K a ρ1 := by
  simp only [Y_eq] at *
  exact Y0.mk h
theorem Y.of {m : M α} {K : α → List Sl → Prop} {a : α} {ρ1 : List Sl} (e : m ρ = some (.ok a, ρ1)) (h : K a ρ1) : Y m ρ K X := by
  simp only [Y_eq] at *
  exact Y0.of e h
variable {K : α → List Sl → Prop}
theorem Y_pur {a : α} : Y (pur a) ρ K X = K a ρ := by
  simp only [Y_eq]
  exact Y0_pur
theorem Y_fai : Y (fai : M α) ρ K X = False := by
  simp only [Y_eq]
  exact Y0_fai
theorem Y_bnd {m : M β} {k : β → M α} : Y (bnd m k) ρ K X = Y m ρ (fun a ρ1 => Y (k a) ρ1 K X) X := by
  simp only [Y_eq]
  exact Y0_bnd
theorem Y_noEr {m : M α} : Y (noEr m) ρ K X = Y m ρ K NX := by
  simp only [Y_eq]
  exact Y0_noEr
end
section
variable {ρ : List Sl} {X : XC} {K : Rv → List Sl → Prop} {KD : D → List Sl → Prop} {KB : Bool → List Sl → Prop} {KF : Fl → List Sl → Prop} {m a b c : Ev} {s t : M Fl} {u v : M Bool} {i j n : Nat}
theorem Y_vD {d : D} : Y (vD d) ρ K X = K (.d d) ρ := by
  simp only [Y_eq]
  exact Y0_vD
theorem Y_evV : Y (evV i) ρ K X = match ρ[i]? with | some (.dat d) => K (.d d) ρ | _ => False := by
  simp only [Y_eq]
  exact Y0_evV
theorem Y_evF : Y (evF i) ρ K X = match ρ[i]? with | some (.dat d) => K (.d d) ρ | some (.cel .own c) => (match c.froz with | some d => K (.d d) (ρ.set i (.dat d)) | none => False) | _ => False := by
  simp only [Y_eq]
  exact Y0_evF
theorem Y_evM : Y (evM i) ρ K X = match ρ[i]? with | some (.dat d) => K (.d d) ρ | some (.cel .own c) => K (.c c) (ρ.set i .un) | _ => False := by
  simp only [Y_eq]
  exact Y0_evM
theorem Y_dat : Y (dat m) ρ KD X = Y m ρ (fun r ρ1 => match r with | .d d => KD d ρ1 | .c c => ∃ d, c.froz = some d ∧ KD d ρ1) X := by
  simp only [Y_eq]
  exact Y0_dat
theorem Y_tst : Y (tst m) ρ KB X = Y (dat m) ρ (fun d ρ1 => match d with | .bl b => KB b ρ1 | _ => False) X := by
  simp only [Y_eq]
  exact Y0_tst
theorem Y_ev2 {g : D → D → Option D} : Y (ev2 g a b) ρ K X = Y (dat a) ρ (fun x ρ1 => Y (dat b) ρ1 (fun y ρ2 => ∃ z, g x y = some z ∧ K (.d z) ρ2) X) X := by
  simp only [Y_eq]
  exact Y0_ev2
theorem Y_ev2c {g : D → D → Option CC} : Y (ev2c g a b) ρ K X = Y (dat a) ρ (fun x ρ1 => Y (dat b) ρ1 (fun y ρ2 => ∃ z, g x y = some z ∧ K (.c z) ρ2) X) X := by
  simp only [Y_eq]
  exact Y0_ev2c
theorem Y_ev1 {g : D → Option D} : Y (ev1 g a) ρ K X = Y (dat a) ρ (fun x ρ1 => ∃ z, g x = some z ∧ K (.d z) ρ1) X := by
  simp only [Y_eq]
  exact Y0_ev1
theorem Y_seq : Y (evSeq s t) ρ KF X = Y s ρ (fun f ρ1 => match f with | .nx => Y t ρ1 KF X | f => KF f ρ1) X := by
  simp only [Y_eq]
  exact Y0_seq
theorem Y_evIf : Y (evIf u s t) ρ KF X = Y u ρ (fun c ρ1 => if c = true then Y s ρ1 KF X else Y t ρ1 KF X) X := by
  simp only [Y_eq]
  exact Y0_evIf
theorem Y_tNo : Y (tNo u) ρ KB X = Y u ρ (fun c ρ1 => KB (!c) ρ1) X := by
  simp only [Y_eq]
  exact Y0_tNo
theorem Y_tAn : Y (tAn u v) ρ KB X = Y u ρ (fun c ρ1 => if c = true then Y v ρ1 KB X else KB false ρ1) X := by
  simp only [Y_eq]
  exact Y0_tAn
theorem Y_tOo : Y (tOo u v) ρ KB X = Y u ρ (fun c ρ1 => if c = true then KB true ρ1 else Y v ρ1 KB X) X := by
  simp only [Y_eq]
  exact Y0_tOo
theorem Y_vNo : Y (vNo m) ρ K X = Y (tst m) ρ (fun c ρ1 => K (.d (.bl (!c))) ρ1) X := by
  simp only [Y_eq]
  exact Y0_vNo
theorem Y_vAn : Y (vAn a b) ρ K X = Y (tst a) ρ (fun c ρ1 => if c = true then Y (dat b) ρ1 (fun d ρ2 => K (.d d) ρ2) X else K (.d (.bl false)) ρ1) X := by
  simp only [Y_eq]
  exact Y0_vAn
theorem Y_vOo : Y (vOo a b) ρ K X = Y (tst a) ρ (fun c ρ1 => if c = true then K (.d (.bl true)) ρ1 else Y (dat b) ρ1 (fun d ρ2 => K (.d d) ρ2) X) X := by
  simp only [Y_eq]
  exact Y0_vOo
theorem Y_vIf : Y (vIf u a b) ρ K X = Y u ρ (fun c ρ1 => if c = true then Y a ρ1 K X else Y b ρ1 K X) X := by
  simp only [Y_eq]
  exact Y0_vIf
theorem Y_ch2 {g g' : D → D → Option D} : Y (ch2 g g' a b c) ρ K X = Y (dat a) ρ (fun x ρ1 => Y (dat b) ρ1 (fun y ρ2 => ∃ z, g x y = some (.bl z) ∧ if z = true then Y (dat c) ρ2 (fun w ρ3 => ∃ z2, g' y w = some z2 ∧ K (.d z2) ρ3) X else K (.d (.bl false)) ρ2) X) X := by
  simp only [Y_eq]
  exact Y0_ch2
theorem Y_ch3 {g g' g'' : D → D → Option D} {d : Ev} : Y (ch3 g g' g'' a b c d) ρ KB X = Y (dat a) ρ (fun x ρ1 => Y (dat b) ρ1 (fun y ρ2 => ∃ z, g x y = some (.bl z) ∧ if z = true then Y (dat c) ρ2 (fun w ρ3 => ∃ z2, g' y w = some (.bl z2) ∧ if z2 = true then Y (dat d) ρ3 (fun q ρ4 => ∃ z3, g'' w q = some (.bl z3) ∧ KB z3 ρ4) X else KB false ρ3) X else KB false ρ2) X) X := by
  simp only [Y_eq]
  exact Y0_ch3
theorem Y_setD {d : D} : Y (setD i d) ρ KF X = ∃ s, ρ[i]? = some s ∧ canSet s = true ∧ KF .nx (ρ.set i (.dat d)) := by
  simp only [Y_eq]
  exact Y0_setD
theorem Y_setC {d : CC} : Y (PL.setC i d) ρ KF X = ∃ s, ρ[i]? = some s ∧ canSet s = true ∧ KF .nx (ρ.set i (.cel .own d)) := by
  simp only [Y_eq]
  exact Y0_setC
theorem Y_asg : Y (evAsg i m) ρ KF X = Y (dat m) ρ (fun d ρ1 => Y (setD i d) ρ1 KF X) X := by
  simp only [Y_eq]
  exact Y0_asg
theorem Y_asgC : Y (evAsgC i m) ρ KF X = Y m ρ (fun r ρ1 => match r with | .c c => Y (PL.setC i c) ρ1 KF X | .d _ => False) X := by
  simp only [Y_eq]
  exact Y0_asgC
theorem Y_ret : Y (evRet m) ρ KF X = Y m ρ (fun r ρ1 => KF (.rt r) ρ1) X := by
  simp only [Y_eq]
  exact Y0_ret
theorem Y_ex : Y (evEx m) ρ KF X = Y m ρ (fun _ ρ1 => KF .nx ρ1) X := by
  simp only [Y_eq]
  exact Y0_ex
theorem Y_nx : Y evNx ρ KF X = KF .nx ρ := by
  simp only [Y_eq]
  exact Y0_nx
theorem Y_look {α : Type} {ok : α → Bool} {m : M α} {K : α → List Sl → Prop} : Y (look j ok m) ρ K X = match ρ[j]? with | some (.cel _ (.lst xs)) => Y m (lkS j xs 0 ρ) (fun r _ => ok r = true ∧ K r ρ) NX | _ => False := by
  simp only [Y_eq]
  exact Y0_look
variable {KS : List D → List Sl → Prop} {KA : List Ar → List Sl → Prop} {es : List DE} {as : List AE}
theorem Y_ds0 : Y (evDs []) ρ KS X = KS [] ρ := by
  simp only [Y_eq]
  exact Y0_ds0
theorem Y_dsE : Y (evDs (.e m :: es)) ρ KS X = Y (dat m) ρ (fun d ρ1 => Y (evDs es) ρ1 (fun ds ρ2 => KS (d :: ds) ρ2) X) X := by
  simp only [Y_eq]
  exact Y0_dsE
theorem Y_dsS : Y (evDs (.s m :: es)) ρ KS X = Y (dat m) ρ (fun d ρ1 => ∃ xs, d.items = some xs ∧ Y (evDs es) ρ1 (fun ds ρ2 => KS (xs ++ ds) ρ2) X) X := by
  simp only [Y_eq]
  exact Y0_dsS
theorem Y_B {g : List D → Option D} : Y (evB g es) ρ K X = Y (evDs es) ρ (fun ds ρ1 => ∃ z, g ds = some z ∧ K (.d z) ρ1) X := by
  simp only [Y_eq]
  exact Y0_B
theorem Y_Bc {g : List D → Option CC} : Y (evBc g es) ρ K X = Y (evDs es) ρ (fun ds ρ1 => ∃ z, g ds = some z ∧ K (.c z) ρ1) X := by
  simp only [Y_eq]
  exact Y0_Bc
theorem Y_tup : Y (evTup es) ρ K X = Y (evDs es) ρ (fun ds ρ1 => ds.length ≤ 16777216 ∧ K (.d (.tup ds)) ρ1) X := by
  simp only [Y_eq]
  exact Y0_tup
theorem Y_lst : Y (evLst es) ρ K X = Y (evDs es) ρ (fun ds ρ1 => ds.length ≤ 16777216 ∧ K (.c (.lst ds)) ρ1) X := by
  simp only [Y_eq]
  exact Y0_lst
theorem Y_bmL {f : List D → List D → Option (D × List D)} : Y (evBmL j f es) ρ K X = match ρ[j]? with
    | some (.cel _ (.lst _)) => Y (evDs es) ρ (fun ds ρ1 => match ρ1[j]? with | some (.cel k (.lst xs)) => ∃ p, f xs ds = some p ∧ K (.d p.1) (ρ1.set j (.cel k (.lst p.2))) | _ => False) X
    | _ => False := by
  simp only [Y_eq]
  exact Y0_bmL
theorem Y_LstRg {a b : Ev} : Y (evLstRg a b) ρ K X = Y (dat a) ρ (fun x ρ1 => Y (dat b) ρ1 (fun y ρ2 => match x, y with
    | .int i, .int j => (-(2 ^ 62) ≤ i ∧ i < 2 ^ 62 ∧ -(2 ^ 62) ≤ j ∧ j < 2 ^ 62 ∧ (j - i).toNat ≤ 2 ^ 24) ∧ K (.c (.lst (rngD i (j - i).toNat))) ρ2
    | _, _ => False) X) X := by
  simp only [Y_eq]
  exact Y0_LstRg
theorem Y_SrtSt {a : Ev} : Y (evSrtSt a) ρ K X = Y (dat a) ρ (fun x ρ1 => match x with
    | .lst xs => ∃ ns, D.ints xs = some ns ∧ ns.length ≤ 60 ∧ K (.c (.lst ((srtI ns).map .int))) ρ1
    | _ => False) X := by
  simp only [Y_eq]
  exact Y0_SrtSt
theorem Y_ixL : Y (evIxL j m) ρ K X = match ρ[j]? with
    | some (.cel _ (.lst _)) => Y (dat m) ρ (fun d ρ1 => match ρ1[j]? with | some (.cel _ (.lst xs)) => (match d with | .int i => ∃ z, atI xs i = some z ∧ K (.d z) ρ1 | _ => False) | _ => False) X
    | _ => False := by
  simp only [Y_eq]
  exact Y0_ixL
theorem Y_setI : Y (evSetI j a b) ρ KF X = Y (dat b) ρ (fun d ρ1 => match ρ1[j]? with
    | some (.cel _ (.lst _)) => Y (dat a) ρ1 (fun i ρ2 => match i with
      | .int i => (match ρ2[j]? with | some (.cel k (.lst xs)) => ∃ n, ixN xs.length i = some n ∧ KF .nx (ρ2.set j (.cel k (.lst (xs.set n d)))) | _ => False)
      | _ => False) X
    | _ => False) X := by
  simp only [Y_eq]
  exact Y0_setI
theorem Y_as0 : Y (evAs []) ρ KA X = KA [] ρ := by
  simp only [Y_eq]
  exact Y0_as0
theorem Y_asE : Y (evAs (.e m :: as)) ρ KA X = Y (dat m) ρ (fun d ρ1 => Y (evAs as) ρ1 (fun ar ρ2 => KA (.d d :: ar) ρ2) X) X := by
  simp only [Y_eq]
  exact Y0_asE
theorem Y_asC : Y (evAs (.c j :: as)) ρ KA X = match ρ[j]? with | some (.cel _ _) => Y (evAs as) ρ (fun ar ρ2 => KA (.c j :: ar) ρ2) X | _ => False := by
  simp only [Y_eq]
  exact Y0_asC
theorem Y_callG {G : Fn} {ar : List Ar} : Y (callG n G ar) ρ K X = ∃ ss, argSl ρ ar = some ss ∧ (ar.length = n ∧ (celsOf ar).Nodup) ∧ Y G ss (fun r ss' => K r (back ρ ar ss')) (fun c pl ss' => X c pl (back ρ ar ss')) := by
  simp only [Y_eq]
  exact Y0_callG
theorem Y_call {G : Fn} {ds : List D} : Y (evCall n G as ds) ρ K X = Y (evAs as) ρ (fun ar ρ1 => Y (callG n G (ar ++ ds.map .d)) ρ1 K X) X := by
  simp only [Y_eq]
  exact Y0_call
theorem Y_call0 {G : Fn} {ds : List D} : Y (evCall0 n G as ds) ρ K X = Y (evAs as) ρ (fun ar ρ1 => Y (callG n G (ar ++ ds.map .d)) ρ1 K NX) X := by
  simp only [Y_eq]
  exact Y0_call0
theorem Y_callN {G : Fn} {c : CC} {ar : List Ar} : Y (callN n G c ar) ρ K X = Y (callG n G (.c ρ.length :: ar)) (ρ ++ [.cel .own c]) (fun r ρ1 => K r (ρ1.take ρ.length)) (fun c pl ρ1 => X c pl (ρ1.take ρ.length)) := by
  simp only [Y_eq]
  exact Y0_callN
theorem Y_CallN {G : Fn} {ds : List D} : Y (evCallN n G m as ds) ρ K X = Y m ρ (fun r ρ1 => match r with | .c c => Y (evAs as) ρ1 (fun ar ρ2 => Y (callN n G c (ar ++ ds.map .d)) ρ2 K X) X | .d _ => False) X := by
  simp only [Y_eq]
  exact Y0_CallN
theorem Y_CallN0 {G : Fn} {ds : List D} : Y (evCallN0 n G m as ds) ρ K X = Y m ρ (fun r ρ1 => match r with | .c c => Y (evAs as) ρ1 (fun ar ρ2 => Y (callN n G c (ar ++ ds.map .d)) ρ2 K NX) X | .d _ => False) X := by
  simp only [Y_eq]
  exact Y0_CallN0
theorem Y_CallC {G : Fn} {c : Cl} : Y (evCallC n G c as) ρ K X = Y (evAs as) ρ (fun ar ρ1 => Y (callG n G (.d (.cl c) :: ar)) ρ1 K NX) X := by
  simp only [Y_eq]
  exact Y0_CallC
theorem Y_CallCS {G : Fn} {c : Cl} : Y (evCallCS n G c as) ρ K X = Y (evAs as) ρ (fun ar ρ1 => Y (callG n G (.d (.cl c) :: ar)) ρ1 K X) X := by
  simp only [Y_eq]
  exact Y0_CallCS
theorem Y_mkL {G : Fn} {c : Cl} : Y (evMkL i n G c as) ρ K X = match ρ[i]? with | some (.dat (.cl c')) => c' = c ∧ Y (evMk n G c as []) ρ K X | _ => False := by
  simp only [Y_eq]
  exact Y0_mkL
theorem Y_BestN {f : Int → Int → Int} {es : List DE} : Y (evBestN f es) ρ K X = Y (evDs es) ρ (fun ds ρ1 => ∃ z, gBestN f ds = some z ∧ K (.d z) ρ1) X := by
  simp only [Y_eq]
  exact Y0_BestN
theorem Y_own2 {G : Fn} {c : Cl} : Y (evOwn2 n G c a b) ρ K X = Y (dat a) ρ (fun d ρ1 => match d with
    | .obj c' xs => c' = c ∧ Y (dat b) ρ1 (fun d2 ρ2 => match d2 with | .obj c2 ys => c2 = c ∧ Y (callG n G [.d (.obj c xs), .d (.obj c ys)]) ρ2 K NX | _ => False) X
    | _ => False) X := by
  simp only [Y_eq]
  exact Y0_own2
theorem Y_st {k : StK} : Y (evSt k m) ρ K X = Y (dat m) ρ (fun d ρ1 => match d with | .tup xs => K (.d (.tup (k.ap xs))) ρ1 | _ => False) X := by
  simp only [Y_eq]
  exact Y0_st
theorem Y_ownIn {G : Fn} {c : Cl} : Y (evOwnIn n G c a b) ρ K X = Y (dat a) ρ (fun x ρ1 => Y (dat b) ρ1 (fun d ρ2 => match d with
    | .obj c' xs => c' = c ∧ Y (tst (noEr (callG n G [.d (.obj c xs), .d x]))) ρ2 (fun z ρ3 => K (.d (.bl z)) ρ3) X
    | _ => False) X) X := by
  simp only [Y_eq]
  exact Y0_ownIn
theorem Y_ownNin {G : Fn} {c : Cl} : Y (evOwnNin n G c a b) ρ K X = Y (dat a) ρ (fun x ρ1 => Y (dat b) ρ1 (fun d ρ2 => match d with
    | .obj c' xs => c' = c ∧ Y (tst (noEr (callG n G [.d (.obj c xs), .d x]))) ρ2 (fun z ρ3 => K (.d (.bl (!z))) ρ3) X
    | _ => False) X) X := by
  simp only [Y_eq]
  exact Y0_ownNin
theorem Y_callV {G : Fn} {ds : List D} : Y (callV n G ds) ρ K X = ((n ≤ ds.length ∧ ds.length ≤ 1000000) ∧ Y (callG (n + 1) G ((ds.take n).map .d ++ [.d (.tup (ds.drop n))])) ρ K X) := by
  simp only [Y_eq]
  exact Y0_callV
theorem Y_CallV {G : Fn} : Y (evCallV n G as) ρ K X = Y (evAs as) ρ (fun ar ρ1 => ∃ ds, datas ar = some ds ∧ Y (callV n G ds) ρ1 K X) X := by
  simp only [Y_eq]
  exact Y0_CallV
theorem Y_CallV0 {G : Fn} : Y (evCallV0 n G as) ρ K X = Y (evAs as) ρ (fun ar ρ1 => ∃ ds, datas ar = some ds ∧ Y (callV n G ds) ρ1 K NX) X := by
  simp only [Y_eq]
  exact Y0_CallV0
theorem Y_CallVS {G : Fn} : Y (evCallVS n G m) ρ K X = Y (dat m) ρ (fun d ρ1 => ∃ ds, d.items = some ds ∧ Y (callV n G ds) ρ1 K X) X := by
  simp only [Y_eq]
  exact Y0_CallVS
theorem Y_mkG {G : Fn} {c : Cl} {ar : List Ar} : Y (mkG n G c ar) ρ K X = Y (callG n G (.c ρ.length :: ar)) (ρ ++ [.cel .own (.obj c [])]) (fun r ρ1 => match r, ρ1[ρ.length]? with | .d .non, some (.cel .own c') => K (.c c') (ρ1.take ρ.length) | _, _ => False) (fun c pl ρ1 => X c pl (ρ1.take ρ.length)) := by
  simp only [Y_eq]
  exact Y0_mkG
theorem Y_mk {G : Fn} {c : Cl} {ds : List D} : Y (evMk n G c as ds) ρ K X = Y (evAs as) ρ (fun ar ρ1 => Y (mkG n G c (ar ++ ds.map .d)) ρ1 K X) X := by
  simp only [Y_eq]
  exact Y0_mk
theorem Y_mk0 {G : Fn} {c : Cl} {ds : List D} : Y (evMk0 n G c as ds) ρ K X = Y (evAs as) ρ (fun ar ρ1 => Y (mkG n G c (ar ++ ds.map .d)) ρ1 K NX) X := by
  simp only [Y_eq]
  exact Y0_mk0
theorem Y_meth {G : Fn} {c : Cl} : Y (evMeth n G c m as) ρ K X = Y (dat m) ρ (fun d ρ1 => match d with | .obj c' xs => c' = c ∧ Y (evAs as) ρ1 (fun ar ρ2 => Y (callG n G (.d (.obj c' xs) :: ar)) ρ2 K NX) X | _ => False) X := by
  simp only [Y_eq]
  exact Y0_meth
theorem Y_methS {G : Fn} {c : Cl} : Y (evMethS n G c m as) ρ K X = Y (dat m) ρ (fun d ρ1 => match d with | .obj c' xs => c' = c ∧ Y (evAs as) ρ1 (fun ar ρ2 => Y (callG n G (.d (.obj c' xs) :: ar)) ρ2 K X) X | _ => False) X := by
  simp only [Y_eq]
  exact Y0_methS
theorem Y_runB {k : Nat} {ss : List Sl} : Y (runB k s) ss K X = Y s (ss ++ List.replicate k .un) (fun f ρ => match f with | .nx => K (.d .non) (outs ss ρ) | .rt r => K r (outs ss ρ) | _ => False) (fun c pl ρ => X c pl (outs ss ρ)) := by
  simp only [Y_eq]
  exact Y0_runB
theorem Y_run0 {k : Nat} {ss : List Sl} : Y (run0 k s) ss K X = Y s (ss ++ List.replicate k .un) (fun f ρ => match f with | .nx => K (.d .non) (outs ss ρ) | .rt r => K r (outs ss ρ) | _ => False) NX := by
  simp only [Y_eq]
  exact Y0_run0
theorem Y_raise {c : Cl} : Y (evRaise c) ρ KF X = X c none ρ := by
  simp only [Y_eq]
  exact Y0_raise
theorem Y_raiseP {c : Cl} : Y (evRaiseP c m) ρ KF X = Y (dat m) ρ (fun d ρ1 => fmtD d = true ∧ X c (some d) ρ1) X := by
  simp only [Y_eq]
  exact Y0_raiseP
theorem Y_raise1 {c : Cl} : Y (evRaise1 c m) ρ KF X = Y m ρ (fun _ ρ1 => X c none ρ1) X := by
  simp only [Y_eq]
  exact Y0_raise1
theorem Y_for {it : M (List D)} {tg : Tg} : Y (evFor it tg s) ρ KF X = Y it ρ (fun xs ρ1 => Y (loop tg s xs) ρ1 KF X) X := by
  simp only [Y_eq]
  exact Y0_for
theorem Y_isi {tbl : List (TyN × Bool)} : Y (evIsi tbl m) ρ K X = Y (dat m) ρ (fun d ρ1 => ∃ b, (d.tyN.bind fun t => tbl.lookup t) = some b ∧ K (.d (.bl b)) ρ1) X := by
  simp only [Y_eq]
  exact Y0_isi
theorem Y_tTr : Y (tTr m) ρ KB X = Y (dat m) ρ (fun d ρ1 => ∃ b, d.truth = some b ∧ KB b ρ1) X := by
  simp only [Y_eq]
  exact Y0_tTr
theorem Y_fldS {c : Cl} {f : Str} : Y (evFldS c j f m) ρ KF X = Y (dat m) ρ (fun d ρ1 => match ρ1[j]? with | some (.cel k (.obj c' kvs)) => (c' = c ∧ kvs.length < 1000) ∧ KF .nx (ρ1.set j (.cel k (.obj c' (putD f d kvs)))) | _ => False) X := by
  simp only [Y_eq]
  exact Y0_fldS
theorem Y_cut {J : List Sl → Prop} (h : Y s ρ (fun f ρ1 => f = .nx ∧ J ρ1) X) (k : ∀ ρ1, J ρ1 → Y t ρ1 KF X) : Y (evSeq s t) ρ KF X := by
  simp only [Y_eq] at *
  exact Y0_cut h k
theorem Y_loop {tg : Tg} {I : List D → List Sl → Prop} : ∀ {xs : List D} {ρ : List Sl}, I xs ρ → (∀ x r ρ, I (x :: r) ρ → Y (asgT tg x) ρ (fun f ρ1 => f = .nx ∧ Y s ρ1 (fun f ρ2 => match f with | .nx => I r ρ2 | .ct => I r ρ2 | .bk => KF .nx ρ2 | .rt v => KF (.rt v) ρ2) X) NX) → (∀ ρ, I [] ρ → KF .nx ρ) → Y (loop tg s xs) ρ KF X:= fun {xs ρ} h st e => by simp only [Y_eq] at *; exact Y0_loop h st e
theorem Y_asgT {tg : Tg} : Y (evAsgT tg m) ρ KF X = Y (dat m) ρ (fun d ρ1 => Y (asgT tg d) ρ1 (fun f ρ2 => f = .nx ∧ KF .nx ρ2) NX) X := by
  simp only [Y_eq]
  exact Y0_asgT
theorem Y_asgTt {ts : List Tg} {xs : List D} : Y (asgT (.t ts) (.tup xs)) ρ KF X = Y (asgTs ts xs) ρ KF X := by
  simp only [Y_eq]
  exact Y0_asgTt
theorem Y_asgTs0 : Y (asgTs [] []) ρ KF X = KF .nx ρ := by
  simp only [Y_eq]
  exact Y0_asgTs0
theorem Y_asgTsC {t : Tg} {ts : List Tg} {x : D} {xs : List D} : Y (asgTs (t :: ts) (x :: xs)) ρ KF X = Y (evSeq (asgT t x) (asgTs ts xs)) ρ KF X := by
  simp only [Y_eq]
  exact Y0_asgTsC
theorem Y_part0 {KO : Option Int → List Sl → Prop} : Y (dPart none) ρ KO X = KO none ρ := by
  simp only [Y_eq]
  exact Y0_part0
theorem Y_partS {KO : Option Int → List Sl → Prop} : Y (dPart (some m)) ρ KO X = Y (dat m) ρ (fun d ρ1 => match d with | .int i => KO (some i) ρ1 | _ => False) X := by
  simp only [Y_eq]
  exact Y0_partS
theorem Y_sl {l u : Option Ev} : Y (evSl m l u) ρ K X = Y (dat m) ρ (fun d ρ1 => Y (dPart l) ρ1 (fun lo ρ2 => Y (dPart u) ρ2 (fun hi ρ3 => match d with
    | .lst xs => K (.c (.lst (cut xs lo hi))) ρ3
    | .sq xs => K (.c (.lst (cut xs lo hi))) ρ3
    | .tup xs => K (.d (.tup (cut xs lo hi))) ρ3
    | .str z => z.length ≤ 16777216 ∧ K (.d (.str (cutS z lo hi))) ρ3
    | _ => False) X) X) X := by
  simp only [Y_eq]
  exact Y0_sl
theorem Y_rev : Y (evRev m) ρ K X = Y (dat m) ρ (fun d ρ1 => ∃ xs, d.litems = some xs ∧ K (.c (.lst xs.reverse)) ρ1) X := by
  simp only [Y_eq]
  exact Y0_rev
theorem Y_vNoT : Y (vNoT m) ρ K X = Y (dat m) ρ (fun d ρ1 => ∃ b, d.truth = some b ∧ K (.d (.bl (!b))) ρ1) X := by
  simp only [Y_eq]
  exact Y0_vNoT
theorem Y_maxD {es : List DE} : Y (evMaxD es m) ρ K X = Y (evDs es) ρ (fun ds ρ1 => Y (dat m) ρ1 (fun d ρ2 => match d with | .int n => ∃ z, gMaxD n ds = some z ∧ K (.d z) ρ2 | _ => False) X) X := by
  simp only [Y_eq]
  exact Y0_maxD
theorem Y_itO {c : Cl} {KI : List D → List Sl → Prop} : Y (itO c i m) ρ KI X = Y (dat m) ρ (fun d ρ1 => match d with | .obj c' xs => c' = c ∧ (match xs[i]? with | some (.tup ys) => KI ys ρ1 | _ => False) | _ => False) X := by
  simp only [Y_eq]
  exact Y0_itO
theorem Y_lc {vs : List Nat} {it : M (List D)} {tg : Tg} {e : Ev} : Y (evLc vs it tg u e) ρ K X = Y it ρ (fun xs ρ1 => okOwn ρ1 vs = true ∧ Y (lcGo vs tg u e xs []) (wipeR ρ1 vs) (fun acc ρ2 => K (.c (.lst acc)) (restR ρ1 ρ2 vs)) NX) X := by
  simp only [Y_eq]
  exact Y0_lc
theorem Y_lcGo {vs : List Nat} {tg : Tg} {e : Ev} {f : D → Option D} {ρ0 : List Sl} {KS : List D → List Sl → Prop} {P : D → Prop} (st : ∀ (x : D) (acc : List D), P x → acc.length < 16777216 → Y (asgT tg x) ρ0 (fun g ρ1 => g = .nx ∧ Y (noEr u) ρ1 (fun b ρ2 => if b = true then Y (dat (noEr e)) ρ2 (fun d ρ3 => f x = some d ∧ wipeR ρ3 vs = ρ0) NX else f x = none ∧ wipeR ρ2 vs = ρ0) NX) NX) :
    ∀ (xs acc : List D), (∀ x ∈ xs, P x) → acc.length + xs.length ≤ 16777216 → KS (acc ++ xs.filterMap f) ρ0 → Y (lcGo vs tg u e xs acc) ρ0 KS X:= fun xs acc hp hl h => by simp only [Y_eq] at *; exact Y0_lcGo st xs acc hp hl h
theorem Y_lcI {vs : List Nat} {tg : Tg} {e : Ev} {KS : List D → List Sl → Prop} {I : List D → List D → List Sl → Prop} {xs acc : List D} (h : I xs acc ρ)
    (st : ∀ (x : D) (r acc : List D) (ρ : List Sl), I (x :: r) acc ρ → acc.length < 16777216 ∧ Y (asgT tg x) ρ (fun g ρ1 => g = .nx ∧ Y (noEr u) ρ1 (fun b ρ2 => if b = true then Y (dat (noEr e)) ρ2 (fun d ρ3 => I r (acc ++ [d]) (wipeR ρ3 vs)) NX else I r acc (wipeR ρ2 vs)) NX) NX)
    (fin : ∀ (acc : List D) (ρ : List Sl), I [] acc ρ → KS acc ρ) : Y (lcGo vs tg u e xs acc) ρ KS X := by
  simp only [Y_eq] at *
  exact Y0_lcI h st fin
theorem Y_lc2 {vs vs1 : List Nat} {it it1 : M (List D)} {tg tg1 : Tg} {v : M Bool} {e : Ev} : Y (evLc2 vs it tg u it1 vs1 tg1 v e) ρ K X = Y it ρ (fun xs ρ1 => okOwn ρ1 vs = true ∧ Y (lcGo2 vs tg u it1 vs1 tg1 v e xs []) (wipeR ρ1 vs) (fun acc ρ2 => K (.c (.lst acc)) (restR ρ1 ρ2 vs)) NX) X := by
  simp only [Y_eq]
  exact Y0_lc2
theorem Y.okE {α : Type} {m : M α} {ρ ρ1 : List Sl} {a : α} {K : α → List Sl → Prop} {X : XC} (e : m ρ = some (.ok a, ρ1)) : Y m ρ K X = K a ρ1 := by
  simp only [Y_eq] at *
  exact Y0.okE e
theorem Y.erE {α : Type} {m : M α} {ρ ρ1 : List Sl} {c : Cl} {pl : Option D} {K : α → List Sl → Prop} {X : XC} (e : m ρ = some (.er c pl, ρ1)) : Y m ρ K X = X c pl ρ1 := by
  simp only [Y_eq] at *
  exact Y0.erE e
theorem Y.noE {α : Type} {m : M α} {ρ : List Sl} {K : α → List Sl → Prop} {X : XC} (e : m ρ = none) : Y m ρ K X = False := by
  simp only [Y_eq] at *
  exact Y0.noE e
theorem Y.cg {α : Type} {m m' : M α} {ρ ρ' : List Sl} {K : α → List Sl → Prop} {X : XC} (e : m ρ = m' ρ') : Y m ρ K X = Y m' ρ' K X := by
  simp only [Y_eq] at *
  exact Y0.cg e
theorem Y_suiteA {c : Cl} {pl : Option D} : Y (suiteA i c pl t) ρ KF X = (noExn ρ = true ∧ ∃ z, ρ[i]? = some z ∧ canSet z = true ∧ Y t (ρ.set i (.exn c pl)) (fun f ρ2 => noExn (ρ2.set i .un) = true ∧ KF f (ρ2.set i .un)) NX) := by
  simp only [Y_eq]
  exact Y0_suiteA
theorem Y_tryO {cat : List (Cl × Bool)} : Y (evTryO s cat t) ρ KF X = Y s ρ KF (fun c pl ρ1 => match cat.lookup c with | some true => noExn ρ1 = true ∧ Y t ρ1 (fun f ρ2 => noExn ρ2 = true ∧ KF f ρ2) NX | some false => X c pl ρ1 | none => False) := by
  simp only [Y_eq]
  exact Y0_tryO
theorem Y_tryA {cat : List (Cl × Bool)} : Y (evTryA i s cat t) ρ KF X = Y s ρ KF (fun c pl ρ1 => match cat.lookup c with
    | some true => noExn ρ1 = true ∧ ∃ z, ρ1[i]? = some z ∧ canSet z = true ∧ Y t (ρ1.set i (.exn c pl)) (fun f ρ2 => noExn (ρ2.set i .un) = true ∧ KF f (ρ2.set i .un)) NX
    | some false => X c pl ρ1
    | none => False) := by
  simp only [Y_eq]
  exact Y0_tryA
theorem Y_tryM {cs : List Clp} : Y (evTryM s cs) ρ KF X = Y s ρ KF (fun c pl ρ1 => Y (pick cs c pl) ρ1 KF X) := by
  simp only [Y_eq]
  exact Y0_tryM
theorem Y_pick0 {c : Cl} {pl : Option D} : Y (pick [] c pl) ρ KF X = X c pl ρ := by
  simp only [Y_eq]
  exact Y0_pick0
theorem Y_pickC {c : Cl} {pl : Option D} {cat : List (Cl × Bool)} {cs : List Clp} : Y (pick ((i, cat, t) :: cs) c pl) ρ KF X = match cat.lookup c with
    | some true => Y (suiteA i c pl t) ρ KF X
    | some false => Y (pick cs c pl) ρ KF X
    | none => False := by
  simp only [Y_eq]
  exact Y0_pickC
theorem Y_isE {tbl : List (TyN × Bool)} : Y (evIsE i tbl) ρ K X = match ρ[i]? with | some (.exn c _) => ∃ b, tbl.lookup (.o c) = some b ∧ K (.d (.bl b)) ρ | _ => False := by
  simp only [Y_eq]
  exact Y0_isE
theorem Y_js0 {acc : Str} {KZ : Str → List Sl → Prop} : Y (evJs [] acc) ρ KZ X = KZ acc ρ := by
  simp only [Y_eq]
  exact Y0_js0
theorem Y_jsC {ms : List Ev} {acc : Str} {KZ : Str → List Sl → Prop} : Y (evJs (m :: ms) acc) ρ KZ X = Y (dat m) ρ (fun d ρ1 => match d with | .str y => (acc ++ y).length ≤ 16777216 ∧ Y (evJs ms (acc ++ y)) ρ1 KZ X | _ => False) X := by
  simp only [Y_eq]
  exact Y0_jsC
theorem Y_jn {ms : List Ev} : Y (evJn ms) ρ K X = Y (evJs ms Str.empty) ρ (fun s ρ1 => K (.d (.str s)) ρ1) X := by
  simp only [Y_eq]
  exact Y0_jn
theorem Y_dget : Y (evDGet j m) ρ K X = match ρ[j]? with | some (.cel _ (.dK _)) => Y (dat m) ρ (fun k ρ1 => match ρ1[j]? with | some (.cel _ (.dK kvs)) => ∃ d, k.key.bind (dval kvs) = some d ∧ K (.d d) ρ1 | _ => False) X | _ => False := by
  simp only [Y_eq]
  exact Y0_dget
theorem Y_dget2 : Y (evDGet2 j m a) ρ K X = match ρ[j]? with | some (.cel _ (.dK _)) => Y (dat m) ρ (fun k ρ1 => Y (dat a) ρ1 (fun d ρ2 => match ρ2[j]? with | some (.cel _ (.dK kvs)) => ∃ z, k.key.map (fun k => (dval kvs k).getD d) = some z ∧ K (.d z) ρ2 | _ => False) X) X | _ => False := by
  simp only [Y_eq]
  exact Y0_dget2
theorem Y_dput : Y (evDPut j m a) ρ KF X = Y (dat a) ρ (fun d ρ1 => match ρ1[j]? with | some (.cel _ (.dK _)) => Y (dat m) ρ1 (fun k ρ2 => (match ρ2[j]? with | some (.cel c (.dK kvs)) => ∃ k', k.key = some k' ∧ kvs.length < 16777216 ∧ KF .nx (ρ2.set j (.cel c (.dK (dput kvs k' d)))) | _ => False)) X | _ => False) X := by
  simp only [Y_eq]
  exact Y0_dput
theorem Y_sortDR : Y (evSortDR j) ρ K X = match ρ[j]? with | some (.cel _ (.dK kvs)) => ∃ ks, keysI kvs = some ks ∧ K (.c (.lst ((down ks).map D.int))) ρ | _ => False := by
  simp only [Y_eq]
  exact Y0_sortDR
theorem Y_asgN {d : D} : Y (asgT (.n i) d) ρ KF X = Y (setD i d) ρ KF X := by
  simp only [Y_eq]
  exact Y0_asgN
theorem Y_itL {KI : List D → List Sl → Prop} : Y (itL m) ρ KI X = Y (dat m) ρ (fun d ρ1 => ∃ xs, d.litems = some xs ∧ KI xs ρ1) X := by
  simp only [Y_eq]
  exact Y0_itL
theorem Y_itT {KI : List D → List Sl → Prop} : Y (itT m) ρ KI X = Y (dat m) ρ (fun d ρ1 => ∃ xs, d.titems = some xs ∧ KI xs ρ1) X := by
  simp only [Y_eq]
  exact Y0_itT
theorem Y_itET {KI : List D → List Sl → Prop} : Y (itET m) ρ KI X = Y (dat m) ρ (fun d ρ1 => match d with | .tup xs => KI (enumD xs) ρ1 | _ => False) X := by
  simp only [Y_eq]
  exact Y0_itET
theorem Y_itEL {KI : List D → List Sl → Prop} : Y (itEL m) ρ KI X = Y (dat m) ρ (fun d ρ1 => match d with | .lst xs => KI (enumD xs) ρ1 | .sq xs => KI (enumD xs) ρ1 | _ => False) X := by
  simp only [Y_eq]
  exact Y0_itEL
theorem Y_cnt {o e : Ev} : Y (evCnt o e) ρ K X = Y (dat o) ρ (fun x ρ1 => match x with | .str a => Y (dat e) ρ1 (fun y ρ2 => match y with | .str b => K (.d (.int (Txt.count a b))) ρ2 | _ => False) X | _ => False) X := by
  simp only [Y_eq]
  exact Y0_cnt
theorem Y_itZ {KI : List D → List Sl → Prop} : Y (itZ a b) ρ KI X = Y (dat a) ρ (fun d ρ1 => Y (dat b) ρ1 (fun d2 ρ2 => match d, d2 with | .lst xs, .lst ys => KI (zipD xs ys) ρ2 | .tup xs, .tup ys => KI (zipD xs ys) ρ2 | _, _ => False) X) X := by
  simp only [Y_eq]
  exact Y0_itZ
theorem Y_itZS {KI : List D → List Sl → Prop} : Y (itZS a b) ρ KI X = Y (dat a) ρ (fun d ρ1 => Y (dat b) ρ1 (fun d2 ρ2 => match d, d2 with | .str s, .str t => KI (zipD (chars s) (chars t)) ρ2 | _, _ => False) X) X := by
  simp only [Y_eq]
  exact Y0_itZS
theorem Y_itR3 {KI : List D → List Sl → Prop} {c : Ev} : Y (itR3 a b c) ρ KI X = Y (dat a) ρ (fun d ρ1 => Y (dat b) ρ1 (fun d2 ρ2 => Y (dat c) ρ2 (fun d3 ρ3 => match d, d2, d3 with | .int i, .int j, .int k => stepOk i j k ∧ KI (rng3D i k (Builtin.Range.rangeSize i j k).toNat) ρ3 | _, _, _ => False) X) X) X := by
  simp only [Y_eq]
  exact Y0_itR3
theorem Y_itS {KI : List D → List Sl → Prop} : Y (itS m) ρ KI X = Y (dat m) ρ (fun d ρ1 => ∃ xs, d.sitems = some xs ∧ KI xs ρ1) X := by
  simp only [Y_eq]
  exact Y0_itS
theorem Y_join : Y (evJoin a b) ρ K X = Y (dat a) ρ (fun x ρ1 => match x with | .str z => Y (dat b) ρ1 (fun d ρ2 => ∃ r, dJoin z d = some r ∧ K (.d r) ρ2) X | _ => False) X := by
  simp only [Y_eq]
  exact Y0_join
theorem Y_xf {c : Cl} : Y (evXf i c) ρ K X = match ρ[i]? with | some (.exn c' (some d)) => c' = c ∧ K (.d d) ρ | _ => False := by
  simp only [Y_eq]
  exact Y0_xf
theorem Y_itR1 {KI : List D → List Sl → Prop} : Y (itR1 m) ρ KI X = Y (dat m) ρ (fun d ρ1 => match d with | .int j => (-(2 ^ 62) ≤ j ∧ j < 2 ^ 62) ∧ KI (rngD 0 j.toNat) ρ1 | _ => False) X := by
  simp only [Y_eq]
  exact Y0_itR1
theorem Y_itR2 {KI : List D → List Sl → Prop} : Y (itR2 a b) ρ KI X = Y (dat a) ρ (fun d ρ1 => Y (dat b) ρ1 (fun d2 ρ2 => match d, d2 with | .int i, .int j => (-(2 ^ 62) ≤ i ∧ i < 2 ^ 62 ∧ -(2 ^ 62) ≤ j ∧ j < 2 ^ 62) ∧ KI (rngD i (j - i).toNat) ρ2 | _, _ => False) X) X := by
  simp only [Y_eq]
  exact Y0_itR2
end
end PL
end
section
namespace PL
open PySem PySem.Spec PyProof.Rows L2
theorem pys_ints : ∀ xs : List Int, D.pys (xs.map D.int) = some (xs.map PyData.int)
  | [] => rfl
  | x :: xs => by
    have := pys_ints xs
    rw [List.map_cons, D.pys, this]
    rfl
theorem lay_ints : ∀ xs : List Int, PyData.canLayAll0 (xs.map PyData.int) = true
  | [] => rfl
  | x :: xs => by
    have := lay_ints xs
    rw [List.map_cons, PyData.canLayAll0, this]
    rfl
theorem dep_ints : ∀ xs : List Int, PyData.depthAll (xs.map PyData.int) = 0
  | [] => rfl
  | x :: xs => by
    have := dep_ints xs
    rw [List.map_cons, PyData.depthAll, this]
    rfl
theorem shp_ints (xs : List Int) : SeqAt.shaped (.list (xs.map PyData.int)) = true := by
  have h1 : PyData.canLay0 (.list (xs.map PyData.int)) = true := by rw [PyData.canLay0]; exact lay_ints xs
  have h2 : PyData.depth (.list (xs.map PyData.int)) = 1 := by rw [PyData.depth, dep_ints]
  unfold SeqAt.shaped
  rw [h1, h2]
  rfl
theorem eqv_ints : ∀ xs ys : List Int, PyData.eqvAll (xs.map PyData.int) (ys.map PyData.int) = decide (xs = ys)
  | [], [] => rfl
  | [], _ :: _ => rfl
  | _ :: _, [] => rfl
  | x :: xs, y :: ys => by
    have := eqv_ints xs ys
    rw [List.map_cons, List.map_cons, PyData.eqvAll, this]
    show (x == y && decide (xs = ys)) = _
    (by_cases h1 : x = y <;> by_cases h2 : xs = ys <;> simp [h1, h2])
theorem eqL_ints (xs ys : List Int) : D.eq? (.lst (xs.map D.int)) (.lst (ys.map D.int)) = some (decide (xs = ys)) := by
  have e1 : D.py (.lst (xs.map D.int)) = some (.list (xs.map PyData.int)) := by rw [D.py, pys_ints]; rfl
  have e2 : D.py (.lst (ys.map D.int)) = some (.list (ys.map PyData.int)) := by rw [D.py, pys_ints]; rfl
  have h1 := shp_ints xs
  have h2 := shp_ints ys
  have h3 : PyData.eqv (.list (xs.map PyData.int)) (.list (ys.map PyData.int)) = decide (xs = ys) := by rw [PyData.eqv]; exact eqv_ints xs ys
  show (match D.py (.lst (xs.map D.int)), D.py (.lst (ys.map D.int)) with
    | some x, some y => if SeqAt.shaped x && SeqAt.shaped y then some (PyData.eqv x y) else none
    | _, _ => none) = _
  rw [e1, e2]
  simp [h1, h2, h3]
theorem in_ints (x : Int) (xs : List Int) : dIn (.int x) (.lst (xs.map D.int)) = some (.bl (decide (x ∈ xs))) := by
  unfold dIn dInB
  simp only [D.items, Option.bind_some, D.ints_map, Option.map_some]
  congr 2
  by_cases h : x ∈ xs <;> simp [h]
theorem qe_ii {i j : Int} : D.eq? (.int i) (.int j) = some (decide (i = j)) := id rfl
theorem qe_bb {i j : Bool} : D.eq? (.bl i) (.bl j) = some (i == j) := id rfl
theorem qe_ss {i j : Str} : D.eq? (.str i) (.str j) = some (decide (i = j)) := id rfl
theorem qe_nn : D.eq? .non .non = some true := id rfl
theorem qe_ni {i : Int} : D.eq? .non (.int i) = some false := id rfl
theorem qe_in {i : Int} : D.eq? (.int i) .non = some false := id rfl
theorem qe_nb {i : Bool} : D.eq? .non (.bl i) = some false := id rfl
theorem qe_bn {i : Bool} : D.eq? (.bl i) .non = some false := id rfl
theorem qe_ns {i : Str} : D.eq? .non (.str i) = some false := id rfl
theorem qe_sn {i : Str} : D.eq? (.str i) .non = some false := id rfl
theorem qe_is {i : Int} {s : Str} : D.eq? (.int i) (.str s) = some false := id rfl
theorem qe_si {i : Int} {s : Str} : D.eq? (.str s) (.int i) = some false := id rfl
theorem qe_bs {i : Bool} {s : Str} : D.eq? (.bl i) (.str s) = some false := id rfl
theorem qe_sb {i : Bool} {s : Str} : D.eq? (.str s) (.bl i) = some false := id rfl
theorem at_lt {α : Type} {l : List α} (i : Nat) (h : i < l.length) : atI l (i : Int) = l[i]? := by
  unfold atI ixN
  rw [if_pos (Int.natCast_nonneg i), if_pos (by omega)]
  simp
theorem at_0 {α : Type} {a : α} {l : List α} : atI (a :: l) 0 = some a := at_lt 0 (by simp)
theorem at_1 {α : Type} {a b : α} {l : List α} : atI (a :: b :: l) 1 = some b := at_lt 1 (by simp)
theorem at_2 {α : Type} {a b c : α} {l : List α} : atI (a :: b :: c :: l) 2 = some c := at_lt 2 (by simp)
theorem at_3 {α : Type} {a b c d : α} {l : List α} : atI (a :: b :: c :: d :: l) 3 = some d := at_lt 3 (by simp)
theorem at_4 {α : Type} {a b c d e : α} {l : List α} : atI (a :: b :: c :: d :: e :: l) 4 = some e := at_lt 4 (by simp)
theorem at_5 {α : Type} {a b c d e f : α} {l : List α} : atI (a :: b :: c :: d :: e :: f :: l) 5 = some f := at_lt 5 (by simp)
theorem at_6 {α : Type} {a b c d e f g : α} {l : List α} : atI (a :: b :: c :: d :: e :: f :: g :: l) 6 = some g := at_lt 6 (by simp)
theorem at_7 {α : Type} {a b c d e f g h : α} {l : List α} : atI (a :: b :: c :: d :: e :: f :: g :: h :: l) 7 = some h := at_lt 7 (by simp)
theorem ix_30 : ixN 3 0 = some 0 := by decide
theorem ix_31 : ixN 3 1 = some 1 := by decide
theorem ix_32 : ixN 3 2 = some 2 := by decide
def lk1 (j i : Nat) (xs : List D) (s : Sl) : Sl := match s with | .cel _ _ => if i = j then .dat (.lst xs) else .un | s => s
theorem lkS_c {j i : Nat} {xs : List D} {s : Sl} {r : List Sl} : lkS j xs i (s :: r) = lk1 j i xs s :: lkS j xs (i + 1) r := by cases s <;> rfl
theorem lkS_n {j i : Nat} {xs : List D} : lkS j xs i [] = [] := id rfl
theorem lk1_u {j i : Nat} {xs : List D} : lk1 j i xs .un = .un := id rfl
theorem lk1_d {j i : Nat} {xs : List D} {d : D} : lk1 j i xs (.dat d) = .dat d := id rfl
theorem lk1_x {j i : Nat} {xs : List D} {c : Cl} {d : Option D} : lk1 j i xs (.exn c d) = .exn c d := id rfl
theorem lk1_s {j : Nat} {xs : List D} {k : CK} {c : CC} : lk1 j j xs (.cel k c) = .dat (.lst xs) := if_pos rfl
theorem cs_u : canSet .un = true := id rfl
theorem cs_d {d : D} : canSet (.dat d) = true := id rfl
theorem cs_o {c : CC} : canSet (.cel .own c) = true := id rfl
theorem cs_x {c : Cl} {d : Option D} : canSet (.exn c d) = true := id rfl
theorem lk_b {n m : String} {x : Bool} {r : List (TyN × Bool)} : List.lookup (TyN.b n) ((TyN.b m, x) :: r) = if n = m then some x else List.lookup (TyN.b n) r := by
  rw [List.lookup_cons]
  by_cases e : n = m
  · subst e; simp
  · have : (TyN.b n == TyN.b m) = false := beq_eq_false_iff_ne.mpr fun z => e (by cases z; rfl)
    rw [this, if_neg e]
theorem lk_bo {n : String} {c : Cl} {x : Bool} {r : List (TyN × Bool)} : List.lookup (TyN.b n) ((TyN.o c, x) :: r) = List.lookup (TyN.b n) r := by
  rw [List.lookup_cons]
  have : (TyN.b n == TyN.o c) = false := beq_eq_false_iff_ne.mpr fun z => by cases z
  rw [this]
theorem lk_ob {n : String} {c : Cl} {x : Bool} {r : List (TyN × Bool)} : List.lookup (TyN.o c) ((TyN.b n, x) :: r) = List.lookup (TyN.o c) r := by
  rw [List.lookup_cons]
  have : (TyN.o c == TyN.b n) = false := beq_eq_false_iff_ne.mpr fun z => by cases z
  rw [this]
theorem lk_o {c d : Cl} {x : Bool} {r : List (TyN × Bool)} : List.lookup (TyN.o c) ((TyN.o d, x) :: r) = if c = d then some x else List.lookup (TyN.o c) r := by
  rw [List.lookup_cons]
  by_cases e : c = d
  · subst e; simp
  · have : (TyN.o c == TyN.o d) = false := beq_eq_false_iff_ne.mpr fun z => e (by cases z; rfl)
    rw [this, if_neg e]
theorem lk_c {c d : Cl} {x : Bool} {r : List (Cl × Bool)} : List.lookup c ((d, x) :: r) = if c = d then some x else List.lookup c r := by
  rw [List.lookup_cons]
  by_cases e : c = d
  · subst e; simp
  · have : (c == d) = false := beq_eq_false_iff_ne.mpr e
    rw [this, if_neg e]
theorem ty_n : D.tyN .non = some (.b "NoneType") := id rfl
theorem ty_b {b : Bool} : D.tyN (.bl b) = some (.b "bool") := id rfl
theorem ty_i {i : Int} : D.tyN (.int i) = some (.b "int") := id rfl
theorem ty_s {s : Str} : D.tyN (.str s) = some (.b "str") := id rfl
theorem ty_t {xs : List D} : D.tyN (.tup xs) = some (.b "tuple") := id rfl
theorem ty_l {xs : List D} : D.tyN (.lst xs) = some (.b "list") := id rfl
theorem ty_q {xs : List D} : D.tyN (.sq xs) = some (.b "list") := id rfl
theorem ty_o {c : Cl} {xs : List D} : D.tyN (.obj c xs) = some (.o c) := id rfl
theorem ex_sb {p : Bool} {Q : Bool → Prop} : (∃ z, some (D.bl p) = some (D.bl z) ∧ Q z) = Q p := propext ⟨fun ⟨_, e, q⟩ => by cases e; exact q, fun q => ⟨_, rfl, q⟩⟩
theorem fz_l {xs : List D} : CC.froz (.lst xs) = some (.lst xs) := id rfl
theorem fz_k {kvs : List (Key × D)} : CC.froz (.dK kvs) = some (.dK (kvs.map (·.1)) (kvs.map (·.2))) := id rfl
theorem fz_t {kvs : List (List Key × D)} : CC.froz (.dT kvs) = some (.dT (kvs.map (·.1)) (kvs.map (·.2))) := id rfl
theorem fz_lac {a b : D} : CC.froz (.obj .Lacquer [("a", a), ("b", b)]) = some (.obj .Lacquer [a, b]) := id rfl
theorem fz_cli {a : D} : CC.froz (.obj .Climate [("kinds", a)]) = some (.obj .Climate [a]) := id rfl
theorem fz_wea {a : D} : CC.froz (.obj .Weather [("lengths", a)]) = some (.obj .Weather [a]) := id rfl
theorem fz_rat {a b : D} : CC.froz (.obj .Ratio [("top", a), ("bottom", b)]) = some (.obj .Ratio [a, b]) := id rfl
theorem fz_ste {a : D} : CC.froz (.obj .StepSet [("steps", a)]) = some (.obj .StepSet [a]) := id rfl
theorem fz_web {a b : D} : CC.froz (.obj .StepWeb [("steps", a), ("climate", b)]) = some (.obj .StepWeb [a, b]) := id rfl
theorem fz_sky {a : D} : CC.froz (.obj .SkyWeb [("climate", a)]) = some (.obj .SkyWeb [a]) := id rfl
theorem fz_hab {a b : D} : CC.froz (.obj .Habit [("sight", a), ("rows", b)]) = some (.obj .Habit [a, b]) := id rfl
theorem fz_dia {a : D} : CC.froz (.obj .Diary [("marks", a)]) = some (.obj .Diary [a]) := id rfl
theorem pu_0 {f : Str} {d : D} : putD f d [] = [(f, d)] := id rfl
theorem pu_lac {a b : D} : putD "b" b [("a", a)] = ([("a", a), ("b", b)] : List (Str × D)) := id rfl
theorem pu_rat {a b : D} : putD "bottom" b [("top", a)] = ([("top", a), ("bottom", b)] : List (Str × D)) := id rfl
theorem pu_web {a b : D} : putD "climate" b [("steps", a)] = ([("steps", a), ("climate", b)] : List (Str × D)) := id rfl
theorem pu_hab {a b : D} : putD "rows" b [("sight", a)] = ([("sight", a), ("rows", b)] : List (Str × D)) := id rfl
/-- the signs of hours: true is damp -/
def sg (bs : List Bool) : Str := ⟨(bs.map fun b => if b = true then 35 else 46).toArray⟩
theorem sg_len (bs : List Bool) : (sg bs).length = bs.length := by
  show (List.toArray _).size = _
  (rw [List.size_toArray, List.length_map])
theorem sg_app (a b : List Bool) : sg a ++ sg b = sg (a ++ b) := by
  show (⟨_ ++ _⟩ : Str) = ⟨_⟩
  simp [sg]
theorem sg_dot : ((("." : String) : Str)) = sg [false] := by decide +kernel
theorem sg_hash : ((("#" : String) : Str)) = sg [true] := by decide +kernel
theorem sg_nil : ((("" : String) : Str)) = sg [] := by decide +kernel
theorem sg_inj {a b : List Bool} (h : sg a = sg b) : a = b := by
  have h : (a.map fun b => if b = true then 35 else 46) = (b.map fun b => if b = true then 35 else 46) := by
    have := congrArg (fun s : Str => s.cps.toList) h
    simpa [sg] using this
  rename_i h0
  clear h0
  induction a generalizing b with
  | nil => cases b <;> simp_all
  | cons x a ih =>
    cases b with
    | nil => simp at h
    | cons y b =>
      rw [List.map_cons, List.map_cons, List.cons.injEq] at h
      rw [ih h.2]
      congr 1
      have := h.1
      revert this
      cases x <;> cases y <;> simp
theorem sg_eq {a b : List Bool} : (sg a = sg b) = (a = b) := propext ⟨sg_inj, fun e => by rw [e]⟩
theorem sg_cps (bs : List Bool) : (sg bs).cps.toList = bs.map fun b => if b = true then 35 else 46 := by simp [sg]
theorem sg_ix {bs : List Bool} {i : Nat} (h : i < bs.length) (hl : bs.length ≤ 16777216) : dIx (.str (sg bs)) (.int (i : Int)) = some (.str (sg [bs[i]])) := by
  show (if (sg bs).length ≤ 16777216 then (atI (sg bs).cps.toList (i : Int)).map fun c => D.str ⟨#[c]⟩ else none) = _
  rw [if_pos (by rw [sg_len]; exact hl), sg_cps, at_lt i (by rw [List.length_map]; exact h)]
  simp [h, sg]
theorem sg_ixI {bs : List Bool} {i : Int} (h0 : 0 ≤ i) (h : i < bs.length) (hl : bs.length ≤ 16777216) : dIx (.str (sg bs)) (.int i) = some (.str (sg [bs[i.toNat]'(by omega)])) := by
  (obtain ⟨n, rfl⟩ := Int.eq_ofNat_of_zero_le h0)
  exact sg_ix (by omega) hl
theorem sg_cut (bs : List Bool) (lo hi : Option Int) : cutS (sg bs) lo hi = sg (cut bs lo hi) := by
  unfold cutS cut
  rw [sg_len, sg_cps]
  unfold sg
  (rw [List.map_take, List.map_drop])
theorem sg_items (bs : List Bool) : (D.str (sg bs)).sitems = some (bs.map fun b => .str (sg [b])) := by
  show some (chars (sg bs)) = _
  unfold chars
  rw [sg_cps]
  simp [sg]
theorem sg_rep (bs : List Bool) (n : Nat) : repS (sg bs) n = sg (List.replicate n bs).flatten := by
  have go : ∀ (n : Nat) (a : List Bool), (List.replicate n (sg bs).cps).foldl (· ++ ·) (sg a).cps = (sg (a ++ (List.replicate n bs).flatten)).cps := by
    intro n
    induction n with
    | zero => intro a; simp
    | succ n ih =>
      intro a
      rw [List.replicate_succ, List.foldl_cons]
      have e : (sg a).cps ++ (sg bs).cps = (sg (a ++ bs)).cps := congrArg Str.cps (sg_app a bs)
      rw [e, ih, List.replicate_succ, List.flatten_cons, List.append_assoc]
  have := go n []
  show (⟨_⟩ : Str) = _
  have e : (sg []).cps = #[] := rfl
  rw [← e, this, List.nil_append]
theorem sgx {bs : List Bool} {i : Int} (h0 : 0 ≤ i) (h : i < bs.length) (hl : bs.length ≤ 16777216) : (if bs.length ≤ 16777216 then Option.map (fun c => D.str { cps := #[c] }) (atI (sg bs).cps.toList i) else none) = some (.str (sg [bs[i.toNat]'(by omega)])) := by
  rw [← sg_ixI h0 h hl]
  show _ = (if (sg bs).length ≤ 16777216 then _ else none)
  rw [sg_len]
theorem sg1 {b c : Bool} : (sg [b] = sg [c]) = (b = c) := by rw [sg_eq]; simp
end PL
end
namespace DP
open PySem PySem.Spec PyProof.Rows L2 PL
def topS (i : Nat) : Stmt := PySem.Challenge.pw_dampspells_k54_whole_trap.main.body.getD i (.Pass ⟨0, 0, 0, 0⟩)
abbrev s_Unsound_init : Stmt := inClass (topS 8) 0
abbrev N_Unsound_init : List Str := ["self", "kind"]
abbrev s_f_check_kind : Stmt := topS 14
abbrev N_f_check_kind : List Str := ["w", "g"]
theorem sc_f_check_kind : FnScope ["w", "g"] ["w", "g"] (defScope s_f_check_kind) := ⟨rfl, rfl, rfl, by decide +kernel, rfl, by decide +kernel, by decide +kernel⟩
abbrev s_f_check_kinds : Stmt := topS 15
abbrev N_f_check_kinds : List Str := ["kinds", "w", "g"]
theorem sc_f_check_kinds : FnScope ["kinds", "w", "g"] ["kinds"] (defScope s_f_check_kinds) := ⟨rfl, rfl, rfl, by decide +kernel, rfl, by decide +kernel, by decide +kernel⟩
abbrev s_f_plain_list : Stmt := topS 16
abbrev N_f_plain_list : List Str := ["kinds", "least", "w", "g", "plain"]
theorem sc_f_plain_list : FnScope ["kinds", "least", "w", "g", "plain"] ["kinds"] (defScope s_f_plain_list) := ⟨rfl, rfl, rfl, by decide +kernel, rfl, by decide +kernel, by decide +kernel⟩
abbrev s_f_is_sound_kind : Stmt := topS 20
abbrev N_f_is_sound_kind : List Str := ["lacquer", "w", "g"]
theorem sc_f_is_sound_kind : FnScope ["lacquer", "w", "g"] ["lacquer", "w", "g"] (defScope s_f_is_sound_kind) := ⟨rfl, rfl, rfl, by decide +kernel, rfl, by decide +kernel, by decide +kernel⟩
abbrev s_f_lead_of : Stmt := topS 21
abbrev N_f_lead_of : List Str := ["lacquer", "climate", "w", "g"]
theorem sc_f_lead_of : FnScope ["lacquer", "climate", "w", "g"] ["lacquer", "climate"] (defScope s_f_lead_of) := ⟨rfl, rfl, rfl, by decide +kernel, rfl, by decide +kernel, by decide +kernel⟩
abbrev s_f_bad_kinds : Stmt := topS 22
abbrev N_f_bad_kinds : List Str := ["lacquer", "climate", "w", "g"]
theorem sc_f_bad_kinds : FnScope ["lacquer", "climate", "w", "g"] ["lacquer", "climate"] (defScope s_f_bad_kinds) := ⟨rfl, rfl, rfl, by decide +kernel, rfl, by decide +kernel, by decide +kernel⟩
abbrev s_f_fault : Stmt := topS 23
abbrev N_f_fault : List Str := ["lacquer", "w"]
theorem sc_f_fault : FnScope ["lacquer", "w"] ["lacquer", "w"] (defScope s_f_fault) := ⟨rfl, rfl, rfl, by decide +kernel, rfl, by decide +kernel, by decide +kernel⟩
abbrev s_f_check_sound : Stmt := topS 24
abbrev N_f_check_sound : List Str := ["lacquer", "climate", "bad", "w", "g", "_"]
theorem sc_f_check_sound : FnScope ["lacquer", "climate", "bad", "w", "g", "_"] ["lacquer", "climate"] (defScope s_f_check_sound) := ⟨rfl, rfl, rfl, by decide +kernel, rfl, by decide +kernel, by decide +kernel⟩
abbrev s_f_lays : Stmt := topS 28
abbrev N_f_lays : List Str := ["habit", "steps", "age", "dry", "ahead"]
theorem sc_f_lays : FnScope ["habit", "steps", "age", "dry", "ahead"] ["habit", "steps", "age", "dry", "ahead"] (defScope s_f_lays) := ⟨rfl, rfl, rfl, by decide +kernel, rfl, by decide +kernel, by decide +kernel⟩
abbrev s_f_played : Stmt := topS 29
abbrev N_f_played : List Str := ["habit", "steps", "farthest", "signs", "coats", "dry", "hour", "age"]
theorem sc_f_played : FnScope ["habit", "steps", "farthest", "signs", "coats", "dry", "hour", "age"] ["habit", "steps", "farthest", "signs"] (defScope s_f_played) := ⟨rfl, rfl, rfl, by decide +kernel, rfl, by decide +kernel, by decide +kernel⟩
abbrev s_f_trap : Stmt := topS 31
abbrev N_f_trap : List Str := ["lacquer", "climate", "sight", "lead", "w", "g", "kind"]
theorem sc_f_trap : FnScope ["lacquer", "climate", "sight", "lead", "w", "g", "kind"] ["lacquer", "climate", "sight"] (defScope s_f_trap) := ⟨rfl, rfl, rfl, by decide +kernel, rfl, by decide +kernel, by decide +kernel⟩
abbrev s_f_trap_weather : Stmt := topS 32
abbrev N_f_trap_weather : List Str := ["habit", "lacquer", "climate", "found", "w", "g", "lead", "coats", "spoilt", "caught", "signs", "_", "hour"]
theorem sc_f_trap_weather : FnScope ["habit", "lacquer", "climate", "found", "w", "g", "lead", "coats", "spoilt", "caught", "signs", "_", "hour"] ["habit", "lacquer", "climate"] (defScope s_f_trap_weather) := ⟨rfl, rfl, rfl, by decide +kernel, rfl, by decide +kernel, by decide +kernel⟩
abbrev s_f_ceil_div : Stmt := topS 34
abbrev N_f_ceil_div : List Str := ["x", "y"]
theorem sc_f_ceil_div : FnScope ["x", "y"] ["x", "y"] (defScope s_f_ceil_div) := ⟨rfl, rfl, rfl, by decide +kernel, rfl, by decide +kernel, by decide +kernel⟩
abbrev s_Lacquer_init : Stmt := inClass (topS 36) 1
abbrev N_Lacquer_init : List Str := ["self", "a", "b"]
theorem sc_Lacquer_init : FnScope ["self", "a", "b"] ["self", "a", "b"] (defScope s_Lacquer_init) := ⟨rfl, rfl, rfl, by decide +kernel, rfl, by decide +kernel, by decide +kernel⟩
abbrev s_Lacquer_slack : Stmt := inClass (topS 36) 2
abbrev N_Lacquer_slack : List Str := ["self"]
theorem sc_Lacquer_slack : FnScope ["self"] ["self"] (defScope s_Lacquer_slack) := ⟨rfl, rfl, rfl, by decide +kernel, rfl, by decide +kernel, by decide +kernel⟩
abbrev s_Lacquer_contains : Stmt := inClass (topS 36) 4
abbrev N_Lacquer_contains : List Str := ["self", "step"]
theorem sc_Lacquer_contains : FnScope ["self", "step"] ["self", "step"] (defScope s_Lacquer_contains) := ⟨rfl, rfl, rfl, by decide +kernel, rfl, by decide +kernel, by decide +kernel⟩
abbrev s_Lacquer_spans : Stmt := inClass (topS 36) 5
abbrev N_Lacquer_spans : List Str := ["self", "w"]
theorem sc_Lacquer_spans : FnScope ["self", "w"] ["self", "w"] (defScope s_Lacquer_spans) := ⟨rfl, rfl, rfl, by decide +kernel, rfl, by decide +kernel, by decide +kernel⟩
abbrev s_Lacquer_lead : Stmt := inClass (topS 36) 7
abbrev N_Lacquer_lead : List Str := ["self", "w"]
theorem sc_Lacquer_lead : FnScope ["self", "w"] ["self", "w"] (defScope s_Lacquer_lead) := ⟨rfl, rfl, rfl, by decide +kernel, rfl, by decide +kernel, by decide +kernel⟩
abbrev s_Habit_init : Stmt := inClass (topS 44) 0
abbrev N_Habit_init : List Str := ["self", "sight", "rows", "row"]
theorem sc_Habit_init : FnScope ["self", "sight", "rows", "row"] ["self", "sight", "rows"] (defScope s_Habit_init) := ⟨rfl, rfl, rfl, by decide +kernel, rfl, by decide +kernel, by decide +kernel⟩
abbrev s_Habit_call : Stmt := inClass (topS 44) 1
abbrev N_Habit_call : List Str := ["self", "age", "dry", "ahead", "row_age", "row_dry", "text", "lay"]
theorem sc_Habit_call : FnScope ["self", "age", "dry", "ahead", "row_age", "row_dry", "text", "lay"] ["self", "age", "dry", "ahead"] (defScope s_Habit_call) := ⟨rfl, rfl, rfl, by decide +kernel, rfl, by decide +kernel, by decide +kernel⟩
abbrev s_Habit_eager : Stmt := inClass (topS 44) 2
abbrev N_Habit_eager : List Str := ["sight"]
theorem sc_Habit_eager : FnScope ["sight"] ["sight"] (defScope s_Habit_eager) := ⟨rfl, rfl, rfl, by decide +kernel, rfl, by decide +kernel, by decide +kernel⟩
abbrev s_f_is_row : Stmt := topS 45
abbrev N_f_is_row : List Str := ["row", "sight", "age", "dry", "ahead", "lay", "marks", "mark"]
theorem sc_f_is_row : FnScope ["row", "sight", "age", "dry", "ahead", "lay", "marks", "mark"] ["row", "sight"] (defScope s_f_is_row) := ⟨rfl, rfl, rfl, by decide +kernel, rfl, by decide +kernel, by decide +kernel⟩
abbrev s_f_matches : Stmt := topS 46
abbrev N_f_matches : List Str := ["text", "signs", "mark", "sign"]
theorem sc_f_matches : FnScope ["text", "signs", "mark", "sign"] ["text", "signs"] (defScope s_f_matches) := ⟨rfl, rfl, rfl, by decide +kernel, rfl, by decide +kernel, by decide +kernel⟩
abbrev s_Climate_init : Stmt := inClass (topS 48) 0
abbrev N_Climate_init : List Str := ["self", "kinds"]
theorem sc_Climate_init : FnScope ["self", "kinds"] ["self", "kinds"] (defScope s_Climate_init) := ⟨rfl, rfl, rfl, by decide +kernel, rfl, by decide +kernel, by decide +kernel⟩
abbrev s_Climate_iter : Stmt := inClass (topS 48) 3
abbrev N_Climate_iter : List Str := ["self"]
theorem sc_Climate_iter : FnScope ["self"] ["self"] (defScope s_Climate_iter) := ⟨rfl, rfl, rfl, by decide +kernel, rfl, by decide +kernel, by decide +kernel⟩
abbrev s_l_cell : Stmt := topS 50
abbrev N_l_cell : List Str := ["script", "k"]
theorem sc_l_cell : FnScope ["script", "k"] ["script", "k"] (defScope s_l_cell) := ⟨rfl, rfl, rfl, by decide +kernel, rfl, by decide +kernel, by decide +kernel⟩
abbrev s_l_pool : Stmt := topS 51
abbrev N_l_pool : List Str := ["cell"]
theorem sc_l_pool : FnScope ["cell"] ["cell"] (defScope s_l_pool) := ⟨rfl, rfl, rfl, by decide +kernel, rfl, by decide +kernel, by decide +kernel⟩
abbrev s_l_take : Stmt := topS 52
abbrev N_l_take : List Str := ["pool", "size", "digit", "x"]
theorem sc_l_take : FnScope ["pool", "size", "digit", "x"] ["pool", "size"] (defScope s_l_take) := ⟨rfl, rfl, rfl, by decide +kernel, rfl, by decide +kernel, by decide +kernel⟩
abbrev s_l_up : Stmt := topS 53
abbrev N_l_up : List Str := ["x", "y"]
theorem sc_l_up : FnScope ["x", "y"] ["x", "y"] (defScope s_l_up) := ⟨rfl, rfl, rfl, by decide +kernel, rfl, by decide +kernel, by decide +kernel⟩
abbrev s_l_same : Stmt := topS 54
abbrev N_l_same : List Str := ["actual", "due", "k"]
theorem sc_l_same : FnScope ["actual", "due", "k"] ["actual", "due"] (defScope s_l_same) := ⟨rfl, rfl, rfl, by decide +kernel, rfl, by decide +kernel, by decide +kernel⟩
abbrev s_l_lead : Stmt := topS 55
abbrev N_l_lead : List Str := ["a", "b", "w"]
theorem sc_l_lead : FnScope ["a", "b", "w"] ["a", "b", "w"] (defScope s_l_lead) := ⟨rfl, rfl, rfl, by decide +kernel, rfl, by decide +kernel, by decide +kernel⟩
abbrev s_l_sound_kinds : Stmt := topS 56
abbrev N_l_sound_kinds : List Str := ["pool", "ab", "most", "peak", "need", "a", "b", "top", "kinds", "k", "w", "lead"]
theorem sc_l_sound_kinds : FnScope ["pool", "ab", "most", "peak", "need", "a", "b", "top", "kinds", "k", "w", "lead"] ["pool", "ab", "most", "peak", "need"] (defScope s_l_sound_kinds) := ⟨rfl, rfl, rfl, by decide +kernel, rfl, by decide +kernel, by decide +kernel⟩
abbrev s_l_longest : Stmt := topS 57
abbrev N_l_longest : List Str := ["kinds", "stretch", "best", "kind"]
theorem sc_l_longest : FnScope ["kinds", "stretch", "best", "kind"] ["kinds", "stretch"] (defScope s_l_longest) := ⟨rfl, rfl, rfl, by decide +kernel, rfl, by decide +kernel, by decide +kernel⟩
abbrev s_l_least_run : Stmt := topS 58
abbrev N_l_least_run : List Str := ["kinds", "w", "best", "kind"]
theorem sc_l_least_run : FnScope ["kinds", "w", "best", "kind"] ["kinds", "w"] (defScope s_l_least_run) := ⟨rfl, rfl, rfl, by decide +kernel, rfl, by decide +kernel, by decide +kernel⟩
abbrev s_l_plain : Stmt := topS 59
abbrev N_l_plain : List Str := ["kinds", "plain", "w", "here"]
theorem sc_l_plain : FnScope ["kinds", "plain", "w", "here"] ["kinds"] (defScope s_l_plain) := ⟨rfl, rfl, rfl, by decide +kernel, rfl, by decide +kernel, by decide +kernel⟩
abbrev s_l_fault : Stmt := topS 60
abbrev N_l_fault : List Str := ["a", "b", "kind"]
theorem sc_l_fault : FnScope ["a", "b", "kind"] ["a", "b", "kind"] (defScope s_l_fault) := ⟨rfl, rfl, rfl, by decide +kernel, rfl, by decide +kernel, by decide +kernel⟩
abbrev s_l_head : Stmt := topS 61
abbrev N_l_head : List Str := ["a", "b", "kinds", "lead", "kind"]
theorem sc_l_head : FnScope ["a", "b", "kinds", "lead", "kind"] ["a", "b", "kinds"] (defScope s_l_head) := ⟨rfl, rfl, rfl, by decide +kernel, rfl, by decide +kernel, by decide +kernel⟩
abbrev s_l_breach : Stmt := topS 62
abbrev N_l_breach : List Str := ["kinds", "signs", "stretch", "left", "k"]
theorem sc_l_breach : FnScope ["kinds", "signs", "stretch", "left", "k"] ["kinds", "signs"] (defScope s_l_breach) := ⟨rfl, rfl, rfl, by decide +kernel, rfl, by decide +kernel, by decide +kernel⟩
abbrev s_l_steps : Stmt := topS 63
abbrev N_l_steps : List Str := ["ab", "step"]
theorem sc_l_steps : FnScope ["ab", "step"] ["ab"] (defScope s_l_steps) := ⟨rfl, rfl, rfl, by decide +kernel, rfl, by decide +kernel, by decide +kernel⟩
abbrev s_l_answer : Stmt := topS 64
abbrev N_l_answer : List Str := ["rows", "age", "dry", "ahead", "row", "fits", "i"]
theorem sc_l_answer : FnScope ["rows", "age", "dry", "ahead", "row", "fits", "i"] ["rows", "age", "dry", "ahead"] (defScope s_l_answer) := ⟨rfl, rfl, rfl, by decide +kernel, rfl, by decide +kernel, by decide +kernel⟩
abbrev s_l_play : Stmt := topS 65
abbrev N_l_play : List Str := ["sight", "rows", "steps", "signs", "coats", "dry", "t", "age", "lay"]
theorem sc_l_play : FnScope ["sight", "rows", "steps", "signs", "coats", "dry", "t", "age", "lay"] ["sight", "rows", "steps", "signs"] (defScope s_l_play) := ⟨rfl, rfl, rfl, by decide +kernel, rfl, by decide +kernel, by decide +kernel⟩
abbrev s_l_rows : Stmt := topS 66
abbrev N_l_rows : List Str := ["pool", "sight", "rows", "k", "age", "dry", "text", "i"]
theorem sc_l_rows : FnScope ["pool", "sight", "rows", "k", "age", "dry", "text", "i"] ["pool", "sight"] (defScope s_l_rows) := ⟨rfl, rfl, rfl, by decide +kernel, rfl, by decide +kernel, by decide +kernel⟩
abbrev s_l_steep : Stmt := topS 67
abbrev N_l_steep : List Str := ["pool", "ab", "peak", "need", "slack", "top", "w", "lead"]
theorem sc_l_steep : FnScope ["pool", "ab", "peak", "need", "slack", "top", "w", "lead"] ["pool", "ab", "peak", "need"] (defScope s_l_steep) := ⟨rfl, rfl, rfl, by decide +kernel, rfl, by decide +kernel, by decide +kernel⟩
abbrev s_l_bad : Stmt := topS 68
abbrev N_l_bad : List Str := ["pool", "ab", "need", "w", "lead"]
theorem sc_l_bad : FnScope ["pool", "ab", "need", "w", "lead"] ["pool", "ab", "need"] (defScope s_l_bad) := ⟨rfl, rfl, rfl, by decide +kernel, rfl, by decide +kernel, by decide +kernel⟩
abbrev s_l_case : Stmt := topS 69
abbrev N_l_case : List Str := ["pool", "large", "most", "peak", "need", "a", "ab", "kinds", "head", "sight", "rows"]
theorem sc_l_case : FnScope ["pool", "large", "most", "peak", "need", "a", "ab", "kinds", "head", "sight", "rows"] ["pool"] (defScope s_l_case) := ⟨rfl, rfl, rfl, by decide +kernel, rfl, by decide +kernel, by decide +kernel⟩
abbrev s_l_triple : Stmt := topS 70
abbrev N_l_triple : List Str := ["ab", "plain", "head", "kind"]
theorem sc_l_triple : FnScope ["ab", "plain", "head", "kind"] ["ab", "plain", "head"] (defScope s_l_triple) := ⟨rfl, rfl, rfl, by decide +kernel, rfl, by decide +kernel, by decide +kernel⟩
abbrev s_l_text : Stmt := topS 71
abbrev N_l_text : List Str := ["ab", "kinds", "triple", "sight", "rows", "steps", "quiet", "late", "signs", "latest", "end", "hour"]
theorem sc_l_text : FnScope ["ab", "kinds", "triple", "sight", "rows", "steps", "quiet", "late", "signs", "latest", "end", "hour"] ["ab", "kinds", "triple", "sight", "rows"] (defScope s_l_text) := ⟨rfl, rfl, rfl, by decide +kernel, rfl, by decide +kernel, by decide +kernel⟩
abbrev s_l_unsound : Stmt := topS 72
abbrev N_l_unsound : List Str := ["lacquer", "climate", "sight", "habit", "kind", "first", "kin", "e", "second", "near"]
theorem sc_l_unsound : FnScope ["lacquer", "climate", "sight", "habit", "kind", "first", "kin", "e", "second", "near"] ["lacquer", "climate", "sight", "habit", "kind"] (defScope s_l_unsound) := ⟨rfl, rfl, rfl, by decide +kernel, rfl, by decide +kernel, by decide +kernel⟩
abbrev s_l_trapped : Stmt := topS 73
abbrev N_l_trapped : List Str := ["ab", "kinds", "triple", "habit", "climate", "sight", "rows", "told", "due"]
theorem sc_l_trapped : FnScope ["ab", "kinds", "triple", "habit", "climate", "sight", "rows", "told", "due"] ["ab", "kinds", "triple", "habit", "climate", "sight", "rows"] (defScope s_l_trapped) := ⟨rfl, rfl, rfl, by decide +kernel, rfl, by decide +kernel, by decide +kernel⟩
abbrev s_l_law : Stmt := topS 74
abbrev N_l_law : List Str := ["script", "case", "ab", "kinds", "sight", "rows", "plain", "bad", "given", "lacquer", "climate", "habit", "head", "triple", "pool", "far", "due", "kind"]
theorem sc_l_law : FnScope ["script", "case", "ab", "kinds", "sight", "rows", "plain", "bad", "given", "lacquer", "climate", "habit", "head", "triple", "pool", "far", "due", "kind"] ["script"] (defScope s_l_law) := ⟨rfl, rfl, rfl, by decide +kernel, rfl, by decide +kernel, by decide +kernel⟩
structure S_DampError (K : PySem.W.Frag) (mg : Str → Option Value) (C : Addr) : Prop where
  mg : (mg "DampError" = some (.ref C))
  x : (PySem.W.excIn K C [.type "ValueError", .type "Exception", .type "BaseException", .type "object"] "ValueError.__new__" = true)
  kp : (PySem.W.keepIn K (.ref C) = true)
  b : (PySem.W.subIn K (.ref C) (.type "BaseException") = some true)
  t : (PySem.W.typeIn K (.ref C) = some (.type "type"))
  i : (PySem.W.isClsIn K C = true)
  s : (PySem.W.subIn K (.ref C) (.ref C) = some true)
  hg : (PySem.W.findIn K (.ref C) "__getattribute__" = some (some (.builtin "BaseException.__getattribute__")))
  hk : (PySem.W.findIn K (.ref C) "__getattr__" = some none)
  hd : (PySem.W.hasDictIn K C = true)
  ha : (PySem.W.findIn K (.ref C) "__class__" = some (some (.builtin "object.__class__")))
  hn : (PySem.W.specialIn K (.builtin "object.__class__") "__get__" = some (some (.builtin "getset_descriptor.__get__")))
  ht : (PySem.W.takesIn K (.builtin "object.__class__") = some true)
  hm : (PySem.W.mroIn K C (.type "object") = some true)
theorem S_DampError.ex {K : PySem.W.Frag} {mg : Str → Option Value} {C : Addr} (T : S_DampError K mg C) : ExcC K C := ⟨T.hg, T.hk, T.b, T.hd, T.ha, T.hn, T.ht, T.hm⟩
theorem S_DampError.te {K : PySem.W.Frag} {mg : Str → Option Value} {C : Addr} (T : S_DampError K mg C) : PySem.W.exmOne K (.ref C) (.ref C) = some true := PySem.W.exm_ref T.b T.hd T.t T.s
structure S_BadLacquer (K : PySem.W.Frag) (mg : Str → Option Value) (C : Addr) : Prop where
  mg : (mg "BadLacquer" = some (.ref C))
  x : (PySem.W.excIn K C [.type "ValueError", .type "Exception", .type "BaseException", .type "object"] "ValueError.__new__" = true)
  kp : (PySem.W.keepIn K (.ref C) = true)
  b : (PySem.W.subIn K (.ref C) (.type "BaseException") = some true)
  t : (PySem.W.typeIn K (.ref C) = some (.type "type"))
  i : (PySem.W.isClsIn K C = true)
  s : (PySem.W.subIn K (.ref C) (.ref C) = some true)
  hg : (PySem.W.findIn K (.ref C) "__getattribute__" = some (some (.builtin "BaseException.__getattribute__")))
  hk : (PySem.W.findIn K (.ref C) "__getattr__" = some none)
  hd : (PySem.W.hasDictIn K C = true)
  ha : (PySem.W.findIn K (.ref C) "__class__" = some (some (.builtin "object.__class__")))
  hn : (PySem.W.specialIn K (.builtin "object.__class__") "__get__" = some (some (.builtin "getset_descriptor.__get__")))
  ht : (PySem.W.takesIn K (.builtin "object.__class__") = some true)
  hm : (PySem.W.mroIn K C (.type "object") = some true)
theorem S_BadLacquer.ex {K : PySem.W.Frag} {mg : Str → Option Value} {C : Addr} (T : S_BadLacquer K mg C) : ExcC K C := ⟨T.hg, T.hk, T.b, T.hd, T.ha, T.hn, T.ht, T.hm⟩
theorem S_BadLacquer.te {K : PySem.W.Frag} {mg : Str → Option Value} {C : Addr} (T : S_BadLacquer K mg C) : PySem.W.exmOne K (.ref C) (.ref C) = some true := PySem.W.exm_ref T.b T.hd T.t T.s
structure S_BadKind (K : PySem.W.Frag) (mg : Str → Option Value) (C : Addr) : Prop where
  mg : (mg "BadKind" = some (.ref C))
  x : (PySem.W.excIn K C [.type "ValueError", .type "Exception", .type "BaseException", .type "object"] "ValueError.__new__" = true)
  kp : (PySem.W.keepIn K (.ref C) = true)
  b : (PySem.W.subIn K (.ref C) (.type "BaseException") = some true)
  t : (PySem.W.typeIn K (.ref C) = some (.type "type"))
  i : (PySem.W.isClsIn K C = true)
  s : (PySem.W.subIn K (.ref C) (.ref C) = some true)
  hg : (PySem.W.findIn K (.ref C) "__getattribute__" = some (some (.builtin "BaseException.__getattribute__")))
  hk : (PySem.W.findIn K (.ref C) "__getattr__" = some none)
  hd : (PySem.W.hasDictIn K C = true)
  ha : (PySem.W.findIn K (.ref C) "__class__" = some (some (.builtin "object.__class__")))
  hn : (PySem.W.specialIn K (.builtin "object.__class__") "__get__" = some (some (.builtin "getset_descriptor.__get__")))
  ht : (PySem.W.takesIn K (.builtin "object.__class__") = some true)
  hm : (PySem.W.mroIn K C (.type "object") = some true)
theorem S_BadKind.ex {K : PySem.W.Frag} {mg : Str → Option Value} {C : Addr} (T : S_BadKind K mg C) : ExcC K C := ⟨T.hg, T.hk, T.b, T.hd, T.ha, T.hn, T.ht, T.hm⟩
theorem S_BadKind.te {K : PySem.W.Frag} {mg : Str → Option Value} {C : Addr} (T : S_BadKind K mg C) : PySem.W.exmOne K (.ref C) (.ref C) = some true := PySem.W.exm_ref T.b T.hd T.t T.s
structure S_BadNumber (K : PySem.W.Frag) (mg : Str → Option Value) (C : Addr) : Prop where
  mg : (mg "BadNumber" = some (.ref C))
  x : (PySem.W.excIn K C [.type "ValueError", .type "Exception", .type "BaseException", .type "object"] "ValueError.__new__" = true)
  kp : (PySem.W.keepIn K (.ref C) = true)
  b : (PySem.W.subIn K (.ref C) (.type "BaseException") = some true)
  t : (PySem.W.typeIn K (.ref C) = some (.type "type"))
  i : (PySem.W.isClsIn K C = true)
  s : (PySem.W.subIn K (.ref C) (.ref C) = some true)
  hg : (PySem.W.findIn K (.ref C) "__getattribute__" = some (some (.builtin "BaseException.__getattribute__")))
  hk : (PySem.W.findIn K (.ref C) "__getattr__" = some none)
  hd : (PySem.W.hasDictIn K C = true)
  ha : (PySem.W.findIn K (.ref C) "__class__" = some (some (.builtin "object.__class__")))
  hn : (PySem.W.specialIn K (.builtin "object.__class__") "__get__" = some (some (.builtin "getset_descriptor.__get__")))
  ht : (PySem.W.takesIn K (.builtin "object.__class__") = some true)
  hm : (PySem.W.mroIn K C (.type "object") = some true)
theorem S_BadNumber.ex {K : PySem.W.Frag} {mg : Str → Option Value} {C : Addr} (T : S_BadNumber K mg C) : ExcC K C := ⟨T.hg, T.hk, T.b, T.hd, T.ha, T.hn, T.ht, T.hm⟩
theorem S_BadNumber.te {K : PySem.W.Frag} {mg : Str → Option Value} {C : Addr} (T : S_BadNumber K mg C) : PySem.W.exmOne K (.ref C) (.ref C) = some true := PySem.W.exm_ref T.b T.hd T.t T.s
structure S_BadHabit (K : PySem.W.Frag) (mg : Str → Option Value) (C : Addr) : Prop where
  mg : (mg "BadHabit" = some (.ref C))
  x : (PySem.W.excIn K C [.type "ValueError", .type "Exception", .type "BaseException", .type "object"] "ValueError.__new__" = true)
  kp : (PySem.W.keepIn K (.ref C) = true)
  b : (PySem.W.subIn K (.ref C) (.type "BaseException") = some true)
  t : (PySem.W.typeIn K (.ref C) = some (.type "type"))
  i : (PySem.W.isClsIn K C = true)
  s : (PySem.W.subIn K (.ref C) (.ref C) = some true)
  hg : (PySem.W.findIn K (.ref C) "__getattribute__" = some (some (.builtin "BaseException.__getattribute__")))
  hk : (PySem.W.findIn K (.ref C) "__getattr__" = some none)
  hd : (PySem.W.hasDictIn K C = true)
  ha : (PySem.W.findIn K (.ref C) "__class__" = some (some (.builtin "object.__class__")))
  hn : (PySem.W.specialIn K (.builtin "object.__class__") "__get__" = some (some (.builtin "getset_descriptor.__get__")))
  ht : (PySem.W.takesIn K (.builtin "object.__class__") = some true)
  hm : (PySem.W.mroIn K C (.type "object") = some true)
theorem S_BadHabit.ex {K : PySem.W.Frag} {mg : Str → Option Value} {C : Addr} (T : S_BadHabit K mg C) : ExcC K C := ⟨T.hg, T.hk, T.b, T.hd, T.ha, T.hn, T.ht, T.hm⟩
theorem S_BadHabit.te {K : PySem.W.Frag} {mg : Str → Option Value} {C : Addr} (T : S_BadHabit K mg C) : PySem.W.exmOne K (.ref C) (.ref C) = some true := PySem.W.exm_ref T.b T.hd T.t T.s
structure S_TooLarge (K : PySem.W.Frag) (mg : Str → Option Value) (C : Addr) : Prop where
  mg : (mg "TooLarge" = some (.ref C))
  x : (PySem.W.excIn K C [.type "ValueError", .type "Exception", .type "BaseException", .type "object"] "ValueError.__new__" = true)
  kp : (PySem.W.keepIn K (.ref C) = true)
  b : (PySem.W.subIn K (.ref C) (.type "BaseException") = some true)
  t : (PySem.W.typeIn K (.ref C) = some (.type "type"))
  i : (PySem.W.isClsIn K C = true)
  s : (PySem.W.subIn K (.ref C) (.ref C) = some true)
  hg : (PySem.W.findIn K (.ref C) "__getattribute__" = some (some (.builtin "BaseException.__getattribute__")))
  hk : (PySem.W.findIn K (.ref C) "__getattr__" = some none)
  hd : (PySem.W.hasDictIn K C = true)
  ha : (PySem.W.findIn K (.ref C) "__class__" = some (some (.builtin "object.__class__")))
  hn : (PySem.W.specialIn K (.builtin "object.__class__") "__get__" = some (some (.builtin "getset_descriptor.__get__")))
  ht : (PySem.W.takesIn K (.builtin "object.__class__") = some true)
  hm : (PySem.W.mroIn K C (.type "object") = some true)
theorem S_TooLarge.ex {K : PySem.W.Frag} {mg : Str → Option Value} {C : Addr} (T : S_TooLarge K mg C) : ExcC K C := ⟨T.hg, T.hk, T.b, T.hd, T.ha, T.hn, T.ht, T.hm⟩
theorem S_TooLarge.te {K : PySem.W.Frag} {mg : Str → Option Value} {C : Addr} (T : S_TooLarge K mg C) : PySem.W.exmOne K (.ref C) (.ref C) = some true := PySem.W.exm_ref T.b T.hd T.t T.s
structure S_Unsound (K : PySem.W.Frag) (mg : Str → Option Value) (C : Addr) : Prop where
  mg : (mg "Unsound" = some (.ref C))
  kp : (PySem.W.keepIn K (.ref C) = true)
  b : (PySem.W.subIn K (.ref C) (.type "BaseException") = some true)
  t : (PySem.W.typeIn K (.ref C) = some (.type "type"))
  i : (PySem.W.isClsIn K C = true)
  s : (PySem.W.subIn K (.ref C) (.ref C) = some true)
  hg : (PySem.W.findIn K (.ref C) "__getattribute__" = some (some (.builtin "BaseException.__getattribute__")))
  hk : (PySem.W.findIn K (.ref C) "__getattr__" = some none)
  hd : (PySem.W.hasDictIn K C = true)
  ha : (PySem.W.findIn K (.ref C) "__class__" = some (some (.builtin "object.__class__")))
  hn : (PySem.W.specialIn K (.builtin "object.__class__") "__get__" = some (some (.builtin "getset_descriptor.__get__")))
  ht : (PySem.W.takesIn K (.builtin "object.__class__") = some true)
  hm : (PySem.W.mroIn K C (.type "object") = some true)
  sa : (PySem.W.findIn K (.ref C) "__setattr__" = some (some (.builtin "object.__setattr__")))
  n_kind : (PySem.W.findIn K (.ref C) "kind" = some none)
  ox1 : (∃ nm q N bs bm sn sub ab col dd k0 k1 k2 k3 k5, K.lookup C = some (excClassObj nm q C N bs bm true sn sub ab col dd k0 k1 k2 k3 k5 "ValueError.__new__") ∧ PySem.HandSPX.refsVE bm = true)
theorem S_Unsound.ex {K : PySem.W.Frag} {mg : Str → Option Value} {C : Addr} (T : S_Unsound K mg C) : ExcC K C := ⟨T.hg, T.hk, T.b, T.hd, T.ha, T.hn, T.ht, T.hm⟩
theorem S_Unsound.ox {K : PySem.W.Frag} {mg : Str → Option Value} {C : Addr} (T : S_Unsound K mg C) : OexC K C := ⟨T.ox1, T.sa, T.b, T.t, T.kp⟩
theorem S_Unsound.xf {K : PySem.W.Frag} {mg : Str → Option Value} {C : Addr} (T : S_Unsound K mg C) : XfC K C := ⟨T.hg, T.hk, T.b, T.hd⟩
theorem S_Unsound.te {K : PySem.W.Frag} {mg : Str → Option Value} {C : Addr} (T : S_Unsound K mg C) : PySem.W.exmOne K (.ref C) (.ref C) = some true := PySem.W.exm_ref T.b T.hd T.t T.s
structure S_Strange (K : PySem.W.Frag) (mg : Str → Option Value) (C : Addr) : Prop where
  mg : (mg "Strange" = some (.ref C))
  kp : (PySem.W.keepIn K (.ref C) = true)
  b : (PySem.W.subIn K (.ref C) (.type "BaseException") = some true)
  t : (PySem.W.typeIn K (.ref C) = some (.type "type"))
  i : (PySem.W.isClsIn K C = true)
  s : (PySem.W.subIn K (.ref C) (.ref C) = some true)
  hg : (PySem.W.findIn K (.ref C) "__getattribute__" = some (some (.builtin "BaseException.__getattribute__")))
  hk : (PySem.W.findIn K (.ref C) "__getattr__" = some none)
  hd : (PySem.W.hasDictIn K C = true)
  ha : (PySem.W.findIn K (.ref C) "__class__" = some (some (.builtin "object.__class__")))
  hn : (PySem.W.specialIn K (.builtin "object.__class__") "__get__" = some (some (.builtin "getset_descriptor.__get__")))
  ht : (PySem.W.takesIn K (.builtin "object.__class__") = some true)
  hm : (PySem.W.mroIn K C (.type "object") = some true)
theorem S_Strange.ex {K : PySem.W.Frag} {mg : Str → Option Value} {C : Addr} (T : S_Strange K mg C) : ExcC K C := ⟨T.hg, T.hk, T.b, T.hd, T.ha, T.hn, T.ht, T.hm⟩
theorem S_Strange.te {K : PySem.W.Frag} {mg : Str → Option Value} {C : Addr} (T : S_Strange K mg C) : PySem.W.exmOne K (.ref C) (.ref C) = some true := PySem.W.exm_ref T.b T.hd T.t T.s
structure S_Lacquer (K : PySem.W.Frag) (mg : Str → Option Value) (C : Addr) : Prop where
  pg : (PySem.W.plainGet K C Str.empty = true)
  hd : (PySem.W.hasDictIn K C = true)
  po : (PySem.W.plainOver K C = true)
  sa : (PySem.W.findIn K (.ref C) "__setattr__" = some (some (.builtin "object.__setattr__")))
  mg : (mg "Lacquer" = some (.ref C))
  sf : (PySem.W.selfFirst K C = true)
  nf : (PySem.W.notFirst K C (.ref C) = true)
  ha : (PySem.W.findIn K (.ref C) "__class__" = some (some (.builtin "object.__class__")))
  hn : (PySem.W.specialIn K (.builtin "object.__class__") "__get__" = some (some (.builtin "getset_descriptor.__get__")))
  ht : (PySem.W.takesIn K (.builtin "object.__class__") = some true)
  hm : (PySem.W.mroIn K C (.type "object") = some true)
  kp : (PySem.W.keepIn K (.ref C) = true)
  mkk : (PySem.W.makesIn K C = true)
  v_MOST : (∃ u, PySem.W.findCls K (.ref C) (.type "type") "MOST" = some (.val u) ∧ RelV (.int 12) u)
  rd : (PySem.W.readsIn K C (.type "type") = true)
  ga : (PySem.W.specialIn K (.ref C) "__getattribute__" = some (some (.builtin "type.__getattribute__")))
  n_a : (PySem.W.findIn K (.ref C) "a" = some none)
  n_b : (PySem.W.findIn K (.ref C) "b" = some none)
theorem S_Lacquer.cl {K : PySem.W.Frag} {mg : Str → Option Value} {C : Addr} (T : S_Lacquer K mg C) : Cls K C := ⟨T.pg, T.hd, T.po, T.sa⟩
theorem S_Lacquer.cr {K : PySem.W.Frag} {mg : Str → Option Value} {C : Addr} (T : S_Lacquer K mg C) : ClX.CRead K C (.type "type") := ⟨T.rd, T.ga⟩
theorem S_Lacquer.ct {K : PySem.W.Frag} {mg : Str → Option Value} {C : Addr} (T : S_Lacquer K mg C) : ClsT K C := ⟨T.cl, T.ha, T.hn, T.ht, T.hm⟩
structure S_Habit (K : PySem.W.Frag) (mg : Str → Option Value) (C : Addr) : Prop where
  pg : (PySem.W.plainGet K C Str.empty = true)
  hd : (PySem.W.hasDictIn K C = true)
  po : (PySem.W.plainOver K C = true)
  sa : (PySem.W.findIn K (.ref C) "__setattr__" = some (some (.builtin "object.__setattr__")))
  mg : (mg "Habit" = some (.ref C))
  sf : (PySem.W.selfFirst K C = true)
  nf : (PySem.W.notFirst K C (.ref C) = true)
  ha : (PySem.W.findIn K (.ref C) "__class__" = some (some (.builtin "object.__class__")))
  hn : (PySem.W.specialIn K (.builtin "object.__class__") "__get__" = some (some (.builtin "getset_descriptor.__get__")))
  ht : (PySem.W.takesIn K (.builtin "object.__class__") = some true)
  hm : (PySem.W.mroIn K C (.type "object") = some true)
  kp : (PySem.W.keepIn K (.ref C) = true)
  mkk : (PySem.W.makesIn K C = true)
  rd : (PySem.W.readsIn K C (.type "type") = true)
  ga : (PySem.W.specialIn K (.ref C) "__getattribute__" = some (some (.builtin "type.__getattribute__")))
  n_rows : (PySem.W.findIn K (.ref C) "rows" = some none)
  n_sight : (PySem.W.findIn K (.ref C) "sight" = some none)
theorem S_Habit.cl {K : PySem.W.Frag} {mg : Str → Option Value} {C : Addr} (T : S_Habit K mg C) : Cls K C := ⟨T.pg, T.hd, T.po, T.sa⟩
theorem S_Habit.cr {K : PySem.W.Frag} {mg : Str → Option Value} {C : Addr} (T : S_Habit K mg C) : ClX.CRead K C (.type "type") := ⟨T.rd, T.ga⟩
theorem S_Habit.ct {K : PySem.W.Frag} {mg : Str → Option Value} {C : Addr} (T : S_Habit K mg C) : ClsT K C := ⟨T.cl, T.ha, T.hn, T.ht, T.hm⟩
structure S_Climate (K : PySem.W.Frag) (mg : Str → Option Value) (C : Addr) : Prop where
  pg : (PySem.W.plainGet K C Str.empty = true)
  hd : (PySem.W.hasDictIn K C = true)
  po : (PySem.W.plainOver K C = true)
  sa : (PySem.W.findIn K (.ref C) "__setattr__" = some (some (.builtin "object.__setattr__")))
  mg : (mg "Climate" = some (.ref C))
  sf : (PySem.W.selfFirst K C = true)
  nf : (PySem.W.notFirst K C (.ref C) = true)
  ha : (PySem.W.findIn K (.ref C) "__class__" = some (some (.builtin "object.__class__")))
  hn : (PySem.W.specialIn K (.builtin "object.__class__") "__get__" = some (some (.builtin "getset_descriptor.__get__")))
  ht : (PySem.W.takesIn K (.builtin "object.__class__") = some true)
  hm : (PySem.W.mroIn K C (.type "object") = some true)
  kp : (PySem.W.keepIn K (.ref C) = true)
  mkk : (PySem.W.makesIn K C = true)
  n_kinds : (PySem.W.findIn K (.ref C) "kinds" = some none)
theorem S_Climate.cl {K : PySem.W.Frag} {mg : Str → Option Value} {C : Addr} (T : S_Climate K mg C) : Cls K C := ⟨T.pg, T.hd, T.po, T.sa⟩
theorem S_Climate.ct {K : PySem.W.Frag} {mg : Str → Option Value} {C : Addr} (T : S_Climate K mg C) : ClsT K C := ⟨T.cl, T.ha, T.hn, T.ht, T.hm⟩
def B_f_check_kind : M Fl :=
    (evIf (tOo (tNo (tst (ch2 dLe dLe (vD (.int 1)) (evV 0) (vD (.int 16))))) (tNo (tst (ch2 dLe dLe (vD (.int 1)) (evV 1) (vD (.int 120))))))
    (evRaise1 .BadKind (evJn [(vD (.str "(")), (ev1 dFmt (evV 0)), (vD (.str ", ")), (ev1 dFmt (evV 1)), (vD (.str ") is not a kind"))]))
    evNx)
def G_f_check_kind : Fn := runB 0 B_f_check_kind
def B_f_check_kinds : M Fl :=
    (evSeq (evIf (tst (ev2 dGt (evB gLen [.e (evV 0)]) (vD (.int 300))))
    (evRaise1 .BadKind (evJn [(ev1 dFmt (evB gLen [.e (evV 0)])), (vD (.str " kinds are too many for a climate"))]))
    evNx)
    (evFor (itL (evV 0)) (.t [(.n 1), (.n 2)])
    (evEx (evCall 2 G_f_check_kind [.e (evV 1), .e (evV 2)]))))
def G_f_check_kinds : Fn := runB 2 B_f_check_kinds
def B_f_plain_list : M Fl :=
    (evSeq (evAsgC 1 (pur (.c (.dK []))))
    (evSeq (evFor (itL (evV 0)) (.t [(.n 2), (.n 3)])
    (evDPut 1 (evV 2) (evB gMin2 [.e (evV 3), .e (evDGet2 1 (evV 2) (evV 3))])))
    (evSeq (evAsgC 4 (evLst []))
    (evSeq (evFor (itL (evSortDR 1)) (.n 2)
    (evIf (tOo (look 4 (fun _ => true) (tNo (tTr (evV 4)))) (tst (ev2 dLt (evDGet 1 (evV 2)) (ev2 dIx (look 4 Rv.lfree (ev2 dIx (evV 4) (ev1 dNeg (vD (.int 1))))) (vD (.int 1))))))
    (evEx (evBmL 4 fApp [.e (evTup [.e (evV 2), .e (evDGet 1 (evV 2))])]))
    evNx))
    (evRet (evRev (evF 4)))))))
def G_f_plain_list : Fn := run0 4 B_f_plain_list
def B_Lacquer_slack : M Fl :=
    (evRet (ev2 dSub (ev1 (dFld .Lacquer 1) (evV 0)) (ev1 (dFld .Lacquer 0) (evV 0))))
def G_Lacquer_slack : Fn := run0 0 B_Lacquer_slack
def B_f_ceil_div : M Fl :=
    (evRet (ev1 dNeg (ev2 dDiv (ev1 dNeg (evV 0)) (evV 1))))
def G_f_ceil_div : Fn := run0 0 B_f_ceil_div
def B_Lacquer_spans : M Fl :=
    (evSeq (evIf (tst (ev2 dLt (evV 1) (vD (.int 0))))
    (evRaise .BadNumber)
    evNx)
    (evRet (evCall0 2 G_f_ceil_div [.e (evV 1), .e (evMeth 1 G_Lacquer_slack .Lacquer (evV 0) [])])))
def G_Lacquer_spans : Fn := runB 0 B_Lacquer_spans
def B_Lacquer_lead : M Fl :=
    (evSeq (evIf (tst (ev2 dLt (evV 1) (vD (.int 1))))
    (evRaise .BadNumber)
    evNx)
    (evRet (ev2 dMul (ev2 dSub (evMethS 2 G_Lacquer_spans .Lacquer (evV 0) [.e (evV 1)]) (vD (.int 1))) (ev1 (dFld .Lacquer 0) (evV 0)))))
def G_Lacquer_lead : Fn := runB 0 B_Lacquer_lead
def B_f_is_sound_kind : M Fl :=
    (evRet (vAn (ev2 dLt (evV 1) (ev1 (dFld .Lacquer 1) (evV 0))) (ev2 dGt (evV 2) (evMethS 2 G_Lacquer_lead .Lacquer (evV 0) [.e (evV 1)]))))
def G_f_is_sound_kind : Fn := runB 0 B_f_is_sound_kind
def B_f_lead_of : M Fl :=
    (evRet (evMaxD [.e (evLc [2, 3] (itO .Climate 0 (evV 1)) (.t [(.n 2), (.n 3)]) (pur true) (evMeth 2 G_Lacquer_lead .Lacquer (evV 0) [.e (evV 2)]))] (vD (.int 0))))
def G_f_lead_of : Fn := runB 2 B_f_lead_of
def B_f_fault : M Fl :=
    (evSeq (evIf (tst (ev2 dGe (evV 1) (ev1 (dFld .Lacquer 1) (evV 0))))
    (evRet (vD (.str "long")))
    evNx)
    (evRet (vD (.str "close"))))
def G_f_fault : Fn := run0 0 B_f_fault
def B_f_bad_kinds : M Fl :=
    (evRet (evLc [2, 3] (itO .Climate 0 (evV 1)) (.t [(.n 2), (.n 3)]) (tNo (tst (evCall0 3 G_f_is_sound_kind [.e (evV 0), .e (evV 2), .e (evV 3)]))) (evTup [.e (evV 2), .e (evV 3), .e (evCall0 2 G_f_fault [.e (evV 0), .e (evV 2)])])))
def G_f_bad_kinds : Fn := runB 2 B_f_bad_kinds
def B_f_check_sound : M Fl :=
    (evSeq (evAsg 2 (evCall 2 G_f_bad_kinds [.e (evV 0), .e (evV 1)]))
    (evIf (tTr (evV 2))
    (evSeq (evAsgT (.t [(.n 3), (.n 4), (.n 5)]) (ev2 dIx (evV 2) (vD (.int 0))))
    (evRaiseP .Unsound (evTup [.e (evV 3), .e (evV 4)])))
    evNx))
def G_f_check_sound : Fn := runB 4 B_f_check_sound
def B_f_matches : M Fl :=
    (evRet (evB gAll [.e (evLc [2, 3] (itZS (evV 0) (evV 1)) (.t [(.n 2), (.n 3)]) (pur true) (ev2 dIn (evV 2) (evTup [.e (vD (.str "?")), .e (evV 3)])))]))
def G_f_matches : Fn := run0 2 B_f_matches
def B_Habit_call : M Fl :=
    (evSeq (evFor (itT (ev1 (dFld .Habit 1) (evV 0))) (.t [(.n 4), (.n 5), (.n 6), (.n 7)])
    (evIf (tAn (tst (ev2 dIn (evV 4) (evTup [.e (vD (.int 0)), .e (evV 1)]))) (tAn (tst (ev2 dLe (evV 5) (evV 2))) (tst (evCall0 2 G_f_matches [.e (evV 6), .e (evV 3)]))))
    (evRet (evV 7))
    evNx))
    (evRet (vD (.bl true))))
def G_Habit_call : Fn := run0 4 B_Habit_call
def B_Lacquer_contains : M Fl :=
    (evRet (ch2 dLe dLe (ev1 (dFld .Lacquer 0) (evV 0)) (evV 1) (ev1 (dFld .Lacquer 1) (evV 0))))
def G_Lacquer_contains : Fn := run0 0 B_Lacquer_contains
def B_f_lays : M Fl :=
    (evRet (vAn (ev2 dGt (evV 3) (vD (.int 0))) (vAn (evOwnIn 2 G_Lacquer_contains .Lacquer (evV 2) (evV 1)) (evMeth 4 G_Habit_call .Habit (evV 0) [.e (evV 2), .e (evV 3), .e (evSl (evV 4) none (some (ev1 (dFld .Habit 0) (evV 0))))]))))
def G_f_lays : Fn := run0 0 B_f_lays
def B_f_played : M Fl :=
    (evSeq (evAsgC 4 (evLst [.e (vD (.int 1))]))
    (evSeq (evAsg 5 (vD (.int 1)))
    (evSeq (evFor (itR2 (vD (.int 2)) (ev2 dAdd (ev2 dSub (evB gLen [.e (evV 3)]) (ev1 (dFld .Habit 0) (evV 0))) (vD (.int 1)))) (.n 6)
    (evSeq (evAsg 5 (vIf (tst (ev2 dEq (ev2 dIx (evV 3) (ev2 dSub (evV 6) (vD (.int 1)))) (vD (.str ".")))) (ev2 dAdd (evV 5) (vD (.int 1))) (vD (.int 0))))
    (evSeq (evAsg 7 (ev2 dSub (evV 6) (look 4 Rv.lfree (ev2 dIx (evV 4) (ev1 dNeg (vD (.int 1)))))))
    (evIf (tst (evCall0 5 G_f_lays [.e (evV 0), .e (evV 1), .e (evV 7), .e (evV 5), .e (evSl (evV 3) (some (evV 6)) none)]))
    (evEx (evBmL 4 fApp [.e (evV 6)]))
    (evIf (tst (ev2 dGe (evV 7) (evV 2)))
    (evRet (evTup [.e (evF 4), .e (evV 6)]))
    evNx)))))
    (evRet (evTup [.e (evF 4), .e (vD .non)])))))
def G_f_played : Fn := run0 4 B_f_played
def B_f_trap : M Fl :=
    (evSeq (evEx (evCall 2 G_f_check_sound [.e (evV 0), .e (evV 1)]))
    (evSeq (evAsg 3 (evCall 2 G_f_lead_of [.e (evV 0), .e (evV 1)]))
    (evSeq (evIf (tst (ev2 dGe (evV 2) (evV 3)))
    (evRet (vD .non))
    evNx)
    (evSeq (evAsgT (.t [(.n 4), (.n 5)]) (ev2 dIx (evLc [6] (itO .Climate 0 (evV 1)) (.n 6) (tst (ev2 dEq (evMeth 2 G_Lacquer_lead .Lacquer (evV 0) [.e (ev2 dIx (evV 6) (vD (.int 0)))]) (evV 3))) (evV 6)) (vD (.int 0))))
    (evRet (evTup [.e (evV 4), .e (evV 5), .e (evV 3)]))))))
def G_f_trap : Fn := runB 4 B_f_trap
def B_f_trap_weather : M Fl :=
    (evSeq (evAsg 3 (evCall 3 G_f_trap [.e (evV 1), .e (evV 2), .e (ev1 (dFld .Habit 0) (evV 0))]))
    (evSeq (evIf (tst (ev2 dIs (evV 3) (vD .non)))
    (evRet (vD .non))
    evNx)
    (evSeq (evAsgT (.t [(.n 4), (.n 5), (.n 6)]) (evV 3))
    (evSeq (evAsgT (.t [(.n 7), (.n 8)]) (evCall0 4 G_f_played [.e (evV 0), .e (evV 1), .e (ev1 (dFld .Lacquer 1) (evV 1)), .e (ev2 dMulS (vD (.str ".")) (ev2 dAdd (ev2 dAdd (evV 5) (ev1 (dFld .Lacquer 1) (evV 1))) (ev1 (dFld .Habit 0) (evV 0))))]))
    (evSeq (evAsg 9 (evLc [12] (itL (evV 7)) (.n 12) (tst (ev2 dGe (evV 12) (evV 5))) (evV 12)))
    (evSeq (evIf (tNo (tTr (evV 9)))
    (evRet (ev2 dMulS (vD (.str ".")) (ev2 dAdd (evV 8) (ev1 (dFld .Habit 0) (evV 0)))))
    evNx)
    (evSeq (evAsg 10 (ev2 dAddS (ev2 dAddS (ev2 dMulS (vD (.str ".")) (ev2 dSub (ev2 dAdd (ev2 dIx (evV 9) (vD (.int 0))) (evV 6)) (vD (.int 1)))) (ev2 dMulS (vD (.str "#")) (evV 4))) (ev2 dMulS (vD (.str ".")) (ev1 (dFld .Habit 0) (evV 0)))))
    (evSeq (evAsgT (.t [(.n 11), (.n 8)]) (evCall0 4 G_f_played [.e (evV 0), .e (evV 1), .e (ev1 (dFld .Lacquer 1) (evV 1)), .e (evV 10)]))
    (evRet (evSl (evV 10) none (some (ev2 dAdd (evV 8) (ev1 (dFld .Habit 0) (evV 0))))))))))))))
def G_f_trap_weather : Fn := runB 10 B_f_trap_weather
def B_Lacquer_init : M Fl :=
    (evSeq (evIf (tNo (ch3 dLe dLt dLe (vD (.int 1)) (evV 1) (evV 2) (vD (.int 12))))
    (evRaise1 .BadLacquer (evJn [(vD (.str "a lacquer has no numbers ")), (ev1 dFmt (evV 1)), (vD (.str " and ")), (ev1 dFmt (evV 2))]))
    evNx)
    (evSeq (evFldS .Lacquer 0 "a" (evV 1))
    (evFldS .Lacquer 0 "b" (evV 2))))
def G_Lacquer_init : Fn := runB 0 B_Lacquer_init
def B_f_is_row : M Fl :=
    (evSeq (evIf (tst (ev2 dNe (evB gLen [.e (evV 0)]) (vD (.int 4))))
    (evRet (vD (.bl false)))
    evNx)
    (evSeq (evAsgT (.t [(.n 2), (.n 3), (.n 4), (.n 5)]) (evV 0))
    (evSeq (evAsg 6 (vAn (ev2 dEq (evB gLen [.e (evV 4)]) (evV 1)) (evB gAll [.e (evLc [7] (itS (evV 4)) (.n 7) (pur true) (ev2 dIn (evV 7) (vD (.tup [(.str "."), (.str "#"), (.str "?")]))))])))
    (evRet (vAn (ch2 dLe dLe (vD (.int 0)) (evV 2) (vD (.int 8))) (vAn (ch2 dLe dLe (vD (.int 1)) (evV 3) (vD (.int 8))) (vAn (evV 6) (vOo (ev2 dIsB (evV 5) (vD (.bl true))) (ev2 dIsB (evV 5) (vD (.bl false)))))))))))
def G_f_is_row : Fn := run0 6 B_f_is_row
def B_Habit_init : M Fl :=
    (evSeq (evIf (tOo (tNo (tst (ch2 dLe dLe (vD (.int 0)) (evV 1) (vD (.int 5))))) (tst (ev2 dGt (evB gLen [.e (evV 2)]) (vD (.int 40)))))
    (evRaise1 .BadHabit (evJn [(vD (.str "a habit has a sight of 0 to ")), (ev1 dFmt (vD (.int 5))), (vD (.str " and at most ")), (ev1 dFmt (vD (.int 40))), (vD (.str " rows"))]))
    evNx)
    (evSeq (evIf (tNo (tst (evB gAll [.e (evLc [3] (itL (evV 2)) (.n 3) (pur true) (evCall0 2 G_f_is_row [.e (evV 3), .e (evV 1)]))])))
    (evRaise .BadHabit)
    evNx)
    (evSeq (evFldS .Habit 0 "sight" (evV 1))
    (evFldS .Habit 0 "rows" (evB gTup [.e (evV 2)])))))
def G_Habit_init : Fn := runB 1 B_Habit_init
def B_Habit_eager : M Fl :=
    (evRet (evMk 3 G_Habit_init .Habit [.e (evV 0), .e (evLst [])]))
def G_Habit_eager : Fn := runB 0 B_Habit_eager
def B_Climate_init : M Fl :=
    (evSeq (evEx (evCall 1 G_f_check_kinds [.e (evV 1)]))
    (evFldS .Climate 0 "kinds" (evB gTup [.e (evCall0 1 G_f_plain_list [.e (evV 1)])])))
def G_Climate_init : Fn := runB 0 B_Climate_init
def B_l_cell : M Fl :=
    (evSeq (evIf (tst (ev2 dLt (evV 1) (evB gLen [.e (evV 0)])))
    (evRet (ev2 dIx (evV 0) (evV 1)))
    evNx)
    (evRet (ev2 dAdd (ev2 dMul (vD (.int 977)) (evV 1)) (vD (.int 31)))))
def G_l_cell : Fn := run0 0 B_l_cell
def B_l_pool : M Fl :=
    (evSeq (evIf (tst (ev2 dGe (evV 0) (ev2 dPow (vD (.int 10)) (vD (.int 18)))))
    (evRet (evLst [.e (ev2 dSub (evV 0) (ev2 dPow (vD (.int 10)) (vD (.int 18)))), .e (ev2 dMod (evB gInt [.e (evV 0)]) (vD (.int 1000000007))), .e (vD (.int 0))]))
    evNx)
    (evSeq (evIf (tst (ev2 dLt (evV 0) (vD (.int 0))))
    (evRet (evLst [.e (vD (.int 0)), .e (ev2 dMod (evB gInt [.e (ev2 dSub (vD (.int 1)) (ev2 dMul (vD (.int 2)) (evV 0)))]) (vD (.int 1000000007))), .e (vD (.int 0))]))
    evNx)
    (evRet (evLst [.e (vD (.int 0)), .e (ev2 dMod (evB gInt [.e (ev2 dMul (vD (.int 2)) (evV 0))]) (vD (.int 1000000007))), .e (vD (.int 0))]))))
def G_l_pool : Fn := run0 0 B_l_pool
def B_l_take : M Fl :=
    (evSeq (evSetI 0 (vD (.int 2)) (ev2 dAdd (look 0 Rv.lfree (ev2 dIx (evV 0) (vD (.int 2)))) (vD (.int 1))))
    (evSeq (evIf (tst (ev2 dGt (look 0 Rv.lfree (ev2 dIx (evV 0) (vD (.int 0)))) (vD (.int 1))))
    (evSeq (evAsg 2 (ev2 dMod (evB gInt [.e (look 0 Rv.lfree (ev2 dIx (evV 0) (vD (.int 0))))]) (evV 1)))
    (evSeq (evSetI 0 (vD (.int 0)) (ev2 dDiv (look 0 Rv.lfree (ev2 dIx (evV 0) (vD (.int 0)))) (evV 1)))
    (evRet (evV 2))))
    evNx)
    (evSeq (evAsg 3 (ev2 dMod (evB gInt [.e (ev2 dAdd (ev2 dAdd (look 0 Rv.lfree (ev2 dIx (evV 0) (vD (.int 1)))) (ev2 dMul (vD (.int 48271)) (look 0 Rv.lfree (ev2 dIx (evV 0) (vD (.int 2)))))) (vD (.int 12345)))]) (vD (.int 2147483647))))
    (evSeq (evAsg 3 (ev2 dMod (evB gInt [.e (ev2 dAdd (ev2 dAdd (ev2 dMul (evV 3) (evV 3)) (ev2 dMul (vD (.int 16807)) (look 0 Rv.lfree (ev2 dIx (evV 0) (vD (.int 2)))))) (vD (.int 7)))]) (vD (.int 2147483629))))
    (evSeq (evAsg 3 (ev2 dMod (evB gInt [.e (ev2 dAdd (ev2 dAdd (ev2 dMul (evV 3) (evV 3)) (ev2 dMul (vD (.int 69621)) (look 0 Rv.lfree (ev2 dIx (evV 0) (vD (.int 2)))))) (vD (.int 3)))]) (vD (.int 2147483587))))
    (evRet (ev2 dMod (evB gInt [.e (ev2 dDiv (evV 3) (vD (.int 7)))]) (evV 1))))))))
def G_l_take : Fn := run0 2 B_l_take
def B_l_up : M Fl :=
    (evRet (ev2 dDiv (ev2 dSub (ev2 dAdd (evV 0) (evV 1)) (vD (.int 1))) (evV 1)))
def G_l_up : Fn := run0 0 B_l_up
def B_l_same (GR : Fn) : M Fl :=
    (evSeq (evIf (tst (ev2 dIs (evV 1) (vD .non)))
    (evRet (ev2 dIs (evV 0) (vD .non)))
    evNx)
    (evSeq (evIf (tst (evIsi [(.b "tuple", false), (.b "str", false), (.b "int", false), (.b "NoneType", false)] (evV 1)))
    (evRet (vAn (evIsi [(.b "tuple", false), (.b "str", false), (.b "int", false), (.b "NoneType", false)] (evV 0)) (ev2 dEq (evV 0) (evV 1))))
    evNx)
    (evSeq (evIf (tst (evIsi [(.b "tuple", false), (.b "str", false), (.b "int", true), (.b "NoneType", false)] (evV 1)))
    (evRet (vAn (evIsi [(.b "tuple", false), (.b "str", false), (.b "int", true), (.b "NoneType", false)] (evV 0)) (vAn (vNo (evIsi [(.b "tuple", false), (.b "str", false), (.b "int", false), (.b "NoneType", false)] (evV 0))) (ev2 dEq (evV 0) (evV 1)))))
    evNx)
    (evSeq (evIf (tst (evIsi [(.b "tuple", false), (.b "str", true), (.b "int", false), (.b "NoneType", false)] (evV 1)))
    (evRet (vAn (evIsi [(.b "tuple", false), (.b "str", true), (.b "int", false), (.b "NoneType", false)] (evV 0)) (ev2 dEq (evV 0) (evV 1))))
    evNx)
    (evSeq (evIf (tAn (tst (evIsi [(.b "tuple", true), (.b "str", false), (.b "int", false), (.b "NoneType", false)] (evV 1))) (tNo (tst (evIsi [(.b "tuple", true), (.b "str", false), (.b "int", false), (.b "NoneType", false)] (evV 0)))))
    (evRet (vD (.bl false)))
    evNx)
    (evSeq (evIf (tAn (tst (evIsi [(.b "tuple", false), (.b "str", false), (.b "int", false), (.b "NoneType", false)] (evV 1))) (tNo (tst (evIsi [(.b "tuple", false), (.b "str", false), (.b "int", false), (.b "NoneType", false)] (evV 0)))))
    (evRet (vD (.bl false)))
    evNx)
    (evSeq (evIf (tst (ev2 dNe (evB gLen [.e (evV 0)]) (evB gLen [.e (evV 1)])))
    (evRet (vD (.bl false)))
    evNx)
    (evSeq (evFor (itR1 (evB gLen [.e (evV 1)])) (.n 2)
    (evIf (tNo (tst (evCall0 2 GR [.e (ev2 dIx (evV 0) (evV 2)), .e (ev2 dIx (evV 1) (evV 2))])))
    (evRet (vD (.bl false)))
    evNx))
    (evRet (vD (.bl true)))))))))))
def GR_l_same : Nat → Fn
  | 0 => fun _ => none
  | n + 1 => run0 1 (B_l_same (GR_l_same n))
abbrev G_l_same : Fn := GR_l_same 4
def B_l_lead : M Fl :=
    (evRet (ev2 dMul (ev2 dSub (evCall0 2 G_l_up [.e (evV 2), .e (ev2 dSub (evV 1) (evV 0))]) (vD (.int 1))) (evV 0)))
def G_l_lead : Fn := run0 0 B_l_lead
def B_l_sound_kinds : M Fl :=
    (evSeq (evAsg 5 (ev2 dIx (evV 1) (vD (.int 0))))
    (evSeq (evAsg 6 (ev2 dIx (evV 1) (vD (.int 1))))
    (evSeq (evAsg 7 (evB gMin3 [.e (evV 3), .e (ev2 dSub (evV 6) (vD (.int 1))), .e (ev2 dMul (ev2 dAdd (ev2 dDiv (ev2 dSub (evV 4) (vD (.int 1))) (evV 5)) (vD (.int 1))) (ev2 dSub (evV 6) (evV 5)))]))
    (evSeq (evAsgC 8 (evLst []))
    (evSeq (evFor (itR1 (evCall0 2 G_l_take [.c 0, .e (ev2 dAdd (evV 2) (vD (.int 1)))])) (.n 9)
    (evSeq (evAsg 10 (ev2 dAdd (vD (.int 1)) (evCall0 2 G_l_take [.c 0, .e (evV 7)])))
    (evSeq (evAsg 11 (evCall0 3 G_l_lead [.e (evV 5), .e (evV 6), .e (evV 10)]))
    (evEx (evBmL 8 fApp [.e (evTup [.e (evV 10), .e (ev2 dAdd (ev2 dAdd (evV 11) (vD (.int 1))) (evCall0 2 G_l_take [.c 0, .e (ev2 dSub (evV 4) (evV 11))]))])])))))
    (evRet (evM 8)))))))
def G_l_sound_kinds : Fn := run0 7 B_l_sound_kinds
def B_l_longest : M Fl :=
    (evSeq (evAsg 2 (vD (.int 0)))
    (evSeq (evFor (itL (evV 0)) (.n 3)
    (evIf (tAn (tst (ev2 dLe (ev2 dIx (evV 3) (vD (.int 1))) (evV 1))) (tst (ev2 dGt (ev2 dIx (evV 3) (vD (.int 0))) (evV 2))))
    (evAsg 2 (ev2 dIx (evV 3) (vD (.int 0))))
    evNx))
    (evRet (evV 2))))
def G_l_longest : Fn := run0 2 B_l_longest
def B_l_least_run : M Fl :=
    (evSeq (evAsg 2 (vD (.int 0)))
    (evSeq (evFor (itL (evV 0)) (.n 3)
    (evIf (tAn (tst (ev2 dGe (ev2 dIx (evV 3) (vD (.int 0))) (evV 1))) (tOo (tst (ev2 dEq (evV 2) (vD (.int 0)))) (tst (ev2 dLt (ev2 dIx (evV 3) (vD (.int 1))) (evV 2)))))
    (evAsg 2 (ev2 dIx (evV 3) (vD (.int 1))))
    evNx))
    (evRet (evV 2))))
def G_l_least_run : Fn := run0 2 B_l_least_run
def B_l_plain : M Fl :=
    (evSeq (evAsgC 1 (evLst []))
    (evSeq (evFor (itR2 (vD (.int 1)) (vD (.int 17))) (.n 2)
    (evSeq (evAsg 3 (evCall0 2 G_l_least_run [.e (evV 0), .e (evV 2)]))
    (evIf (tAn (tst (ev2 dGt (evV 3) (vD (.int 0)))) (tst (ev2 dNe (evV 3) (evCall0 2 G_l_least_run [.e (evV 0), .e (ev2 dAdd (evV 2) (vD (.int 1)))]))))
    (evEx (evBmL 1 fApp [.e (evTup [.e (evV 2), .e (evV 3)])]))
    evNx)))
    (evRet (evM 1))))
def G_l_plain : Fn := run0 3 B_l_plain
def B_l_fault : M Fl :=
    (evSeq (evIf (tst (ev2 dGe (ev2 dIx (evV 2) (vD (.int 0))) (evV 1)))
    (evRet (vD (.str "long")))
    evNx)
    (evSeq (evIf (tst (ev2 dLe (ev2 dIx (evV 2) (vD (.int 1))) (evCall0 3 G_l_lead [.e (evV 0), .e (evV 1), .e (ev2 dIx (evV 2) (vD (.int 0)))])))
    (evRet (vD (.str "close")))
    evNx)
    (evRet (vD (.str "")))))
def G_l_fault : Fn := run0 0 B_l_fault
def B_l_head : M Fl :=
    (evSeq (evAsg 3 (vD (.int 0)))
    (evSeq (evFor (itL (evV 2)) (.n 4)
    (evAsg 3 (evB gMax2 [.e (evV 3), .e (evCall0 3 G_l_lead [.e (evV 0), .e (evV 1), .e (ev2 dIx (evV 4) (vD (.int 0)))])])))
    (evRet (evV 3))))
def G_l_head : Fn := run0 2 B_l_head
def B_l_breach : M Fl :=
    (evSeq (evAsg 2 (vD (.int 0)))
    (evSeq (evAsg 3 (vD (.int 0)))
    (evSeq (evFor (itR1 (evB gLen [.e (evV 1)])) (.n 4)
    (evIf (tst (ev2 dEq (ev2 dIx (evV 1) (evV 4)) (vD (.str "."))))
    (evAsg 2 (ev2 dAdd (evV 2) (vD (.int 1))))
    (evSeq (evIf (tst (ev2 dGt (evV 2) (vD (.int 0))))
    (evAsg 3 (evCall0 2 G_l_longest [.e (evV 0), .e (evV 2)]))
    evNx)
    (evSeq (evAsg 2 (vD (.int 0)))
    (evSeq (evIf (tst (ev2 dEq (evV 3) (vD (.int 0))))
    (evRet (ev2 dAdd (evV 4) (vD (.int 1))))
    evNx)
    (evAsg 3 (ev2 dSub (evV 3) (vD (.int 1)))))))))
    (evRet (vD (.int 0))))))
def G_l_breach : Fn := run0 3 B_l_breach
def B_l_steps : M Fl :=
    (evRet (evLc [1] (itR2 (ev2 dIx (evV 0) (vD (.int 0))) (ev2 dAdd (ev2 dIx (evV 0) (vD (.int 1))) (vD (.int 1)))) (.n 1) (pur true) (evV 1)))
def G_l_steps : Fn := run0 1 B_l_steps
def B_l_answer : M Fl :=
    (evSeq (evFor (itL (evV 0)) (.n 4)
    (evSeq (evAsg 5 (vAn (vOo (ev2 dEq (ev2 dIx (evV 4) (vD (.int 0))) (vD (.int 0))) (ev2 dEq (ev2 dIx (evV 4) (vD (.int 0))) (evV 1))) (ev2 dLe (ev2 dIx (evV 4) (vD (.int 1))) (evV 2))))
    (evSeq (evFor (itR1 (evB gLen [.e (ev2 dIx (evV 4) (vD (.int 2)))])) (.n 6)
    (evIf (tAn (tst (ev2 dNe (ev2 dIx (ev2 dIx (evV 4) (vD (.int 2))) (evV 6)) (vD (.str "?")))) (tst (ev2 dNe (ev2 dIx (ev2 dIx (evV 4) (vD (.int 2))) (evV 6)) (ev2 dIx (evV 3) (evV 6)))))
    (evAsg 5 (vD (.bl false)))
    evNx))
    (evIf (tst (evV 5))
    (evRet (ev2 dIx (evV 4) (vD (.int 3))))
    evNx))))
    (evRet (vD (.bl true))))
def G_l_answer : Fn := run0 3 B_l_answer
def B_l_play : M Fl :=
    (evSeq (evAsgC 4 (evLst [.e (vD (.int 1))]))
    (evSeq (evAsg 5 (vD (.int 1)))
    (evSeq (evFor (itR2 (vD (.int 2)) (ev2 dAdd (ev2 dSub (evB gLen [.e (evV 3)]) (evV 0)) (vD (.int 1)))) (.n 6)
    (evSeq (evAsg 5 (ev2 dAdd (evV 5) (vD (.int 1))))
    (evSeq (evIf (tst (ev2 dEq (ev2 dIx (evV 3) (ev2 dSub (evV 6) (vD (.int 1)))) (vD (.str "#"))))
    (evAsg 5 (vD (.int 0)))
    evNx)
    (evSeq (evAsg 7 (ev2 dSub (evV 6) (look 4 Rv.lfree (ev2 dIx (evV 4) (ev1 dNeg (vD (.int 1)))))))
    (evSeq (evAsg 8 (vD (.bl false)))
    (evSeq (evIf (tAn (tst (ev2 dGt (evV 5) (vD (.int 0)))) (tst (ev2 dIn (evV 7) (evV 2))))
    (evAsg 8 (evCall0 4 G_l_answer [.e (evV 1), .e (evV 7), .e (evV 5), .e (evSl (evV 3) (some (evV 6)) (some (ev2 dAdd (evV 6) (evV 0))))]))
    evNx)
    (evIf (tst (evV 8))
    (evEx (evBmL 4 fApp [.e (evV 6)]))
    (evIf (tst (ev2 dGe (evV 7) (ev2 dIx (evV 2) (ev1 dNeg (vD (.int 1))))))
    (evRet (evTup [.e (evF 4), .e (evV 6)]))
    evNx))))))))
    (evRet (evTup [.e (evF 4), .e (vD (.int 0))])))))
def G_l_play : Fn := run0 5 B_l_play
def B_l_rows : M Fl :=
    (evSeq (evAsgC 2 (evLst []))
    (evSeq (evFor (itR1 (evCall0 2 G_l_take [.c 0, .e (vD (.int 6))])) (.n 3)
    (evSeq (evAsg 4 (evCall0 2 G_l_take [.c 0, .e (ev2 dIx (evLst [.e (vD (.int 1)), .e (vD (.int 7)), .e (vD (.int 9))]) (evCall0 2 G_l_take [.c 0, .e (vD (.int 3))]))]))
    (evSeq (evAsg 5 (ev2 dAdd (vD (.int 1)) (evCall0 2 G_l_take [.c 0, .e (ev2 dIx (evLst [.e (vD (.int 2)), .e (vD (.int 4)), .e (vD (.int 8))]) (evCall0 2 G_l_take [.c 0, .e (vD (.int 3))]))])))
    (evSeq (evAsg 6 (evJoin (vD (.str "")) (evLc [7] (itR1 (evV 1)) (.n 7) (pur true) (ev2 dIx (vD (.str ".#??")) (evCall0 2 G_l_take [.c 0, .e (vD (.int 4))])))))
    (evEx (evBmL 2 fApp [.e (evTup [.e (evV 4), .e (evV 5), .e (evV 6), .e (ev2 dEq (evCall0 2 G_l_take [.c 0, .e (vD (.int 3))]) (vD (.int 2)))])]))))))
    (evRet (evM 2))))
def G_l_rows : Fn := run0 6 B_l_rows
def B_l_steep : M Fl :=
    (evSeq (evAsg 4 (ev2 dSub (ev2 dIx (evV 1) (vD (.int 1))) (ev2 dIx (evV 1) (vD (.int 0)))))
    (evSeq (evAsg 5 (evB gMin3 [.e (evV 2), .e (ev2 dSub (ev2 dIx (evV 1) (vD (.int 1))) (vD (.int 1))), .e (ev2 dMul (ev2 dAdd (ev2 dDiv (ev2 dSub (evV 3) (vD (.int 1))) (ev2 dIx (evV 1) (vD (.int 0)))) (vD (.int 1))) (evV 4))]))
    (evSeq (evAsg 6 (evV 5))
    (evSeq (evIf (tst (ev2 dGt (evV 5) (evV 4)))
    (evAsg 6 (ev2 dAdd (ev2 dAdd (evV 4) (vD (.int 1))) (evCall0 2 G_l_take [.c 0, .e (ev2 dSub (evV 5) (evV 4))])))
    evNx)
    (evSeq (evAsg 7 (evCall0 3 G_l_lead [.e (ev2 dIx (evV 1) (vD (.int 0))), .e (ev2 dIx (evV 1) (vD (.int 1))), .e (evV 6)]))
    (evRet (evTup [.e (evV 6), .e (ev2 dAdd (ev2 dAdd (evV 7) (vD (.int 1))) (evCall0 2 G_l_take [.c 0, .e (ev2 dSub (evV 3) (evV 7))]))])))))))
def G_l_steep : Fn := run0 4 B_l_steep
def B_l_bad : M Fl :=
    (evSeq (evAsg 3 (ev2 dAdd (vD (.int 1)) (evCall0 2 G_l_take [.c 0, .e (ev2 dIx (evV 1) (vD (.int 1)))])))
    (evSeq (evAsg 4 (evCall0 3 G_l_lead [.e (ev2 dIx (evV 1) (vD (.int 0))), .e (ev2 dIx (evV 1) (vD (.int 1))), .e (evV 3)]))
    (evSeq (evIf (tAn (tst (ev2 dLt (evV 3) (ev2 dIx (evV 1) (vD (.int 1))))) (tst (ev2 dGt (evV 4) (vD (.int 0)))))
    (evRet (evTup [.e (evV 3), .e (ev2 dAdd (vD (.int 1)) (evCall0 2 G_l_take [.c 0, .e (evB gMin2 [.e (evV 4), .e (evV 2)])]))]))
    evNx)
    (evRet (evTup [.e (ev2 dAdd (ev2 dIx (evV 1) (vD (.int 1))) (evCall0 2 G_l_take [.c 0, .e (ev2 dSub (vD (.int 17)) (ev2 dIx (evV 1) (vD (.int 1))))])), .e (ev2 dAdd (vD (.int 1)) (evCall0 2 G_l_take [.c 0, .e (evV 2)]))])))))
def G_l_bad : Fn := run0 2 B_l_bad
def B_l_case : M Fl :=
    (evSeq (evAsg 1 (evB gInt [.e (ev2 dEq (evCall0 2 G_l_take [.c 0, .e (vD (.int 8))]) (vD (.int 5)))]))
    (evSeq (evAsg 2 (ev2 dAdd (vD (.int 6)) (ev2 dMul (vD (.int 6)) (evV 1))))
    (evSeq (evAsg 3 (ev2 dAdd (vD (.int 5)) (ev2 dMul (vD (.int 6)) (evV 1))))
    (evSeq (evAsg 4 (ev2 dAdd (vD (.int 14)) (ev2 dMul (vD (.int 106)) (evV 1))))
    (evSeq (evAsg 5 (ev2 dAdd (vD (.int 2)) (evCall0 2 G_l_take [.c 0, .e (ev2 dSub (evV 2) (vD (.int 2)))])))
    (evSeq (evIf (tst (ev2 dEq (evCall0 2 G_l_take [.c 0, .e (vD (.int 8))]) (vD (.int 3))))
    (evAsg 5 (vD (.int 1)))
    evNx)
    (evSeq (evAsg 6 (evTup [.e (evV 5), .e (ev2 dAdd (ev2 dAdd (evV 5) (vD (.int 1))) (evCall0 2 G_l_take [.c 0, .e (ev2 dSub (evV 2) (evV 5))]))]))
    (evSeq (evAsgC 7 (evCall0 5 G_l_sound_kinds [.c 0, .e (evV 6), .e (vD (.int 2)), .e (evV 3), .e (evV 4)]))
    (evSeq (evEx (evBmL 7 fIns [.e (evCall0 2 G_l_take [.c 0, .e (ev2 dAdd (look 7 Rv.lfree (evB gLen [.e (evV 7)])) (vD (.int 1)))]), .e (evCall0 4 G_l_steep [.c 0, .e (evV 6), .e (evV 3), .e (evV 4)])]))
    (evSeq (evAsg 8 (look 7 Rv.lfree (evCall0 3 G_l_head [.e (ev2 dIx (evV 6) (vD (.int 0))), .e (ev2 dIx (evV 6) (vD (.int 1))), .e (evV 7)])))
    (evSeq (evAsg 9 (evCall0 2 G_l_take [.c 0, .e (evB gMin2 [.e (vD (.int 6)), .e (evB gMax2 [.e (vD (.int 1)), .e (evV 8)])])]))
    (evSeq (evIf (tst (ev2 dEq (evCall0 2 G_l_take [.c 0, .e (vD (.int 6))]) (vD (.int 2))))
    (evAsg 9 (evB gMin2 [.e (vD (.int 5)), .e (ev2 dAdd (evV 8) (evCall0 2 G_l_take [.c 0, .e (vD (.int 2))]))]))
    evNx)
    (evSeq (evAsg 10 (evCall0 2 G_l_rows [.c 0, .e (evV 9)]))
    (evSeq (evIf (tst (ev2 dEq (evCall0 2 G_l_take [.c 0, .e (vD (.int 8))]) (vD (.int 2))))
    (evEx (evBmL 7 fIns [.e (evCall0 2 G_l_take [.c 0, .e (ev2 dAdd (look 7 Rv.lfree (evB gLen [.e (evV 7)])) (vD (.int 1)))]), .e (evCall0 3 G_l_bad [.c 0, .e (evV 6), .e (evV 4)])]))
    evNx)
    (evRet (evTup [.e (evV 6), .e (evF 7), .e (evV 9), .e (evV 10)]))))))))))))))))
def G_l_case : Fn := run0 10 B_l_case
def B_l_triple : M Fl :=
    (evSeq (evFor (itL (evV 1)) (.n 3)
    (evIf (tst (ev2 dEq (evCall0 3 G_l_lead [.e (ev2 dIx (evV 0) (vD (.int 0))), .e (ev2 dIx (evV 0) (vD (.int 1))), .e (ev2 dIx (evV 3) (vD (.int 0)))]) (evV 2)))
    (evRet (evTup [.e (ev2 dIx (evV 3) (vD (.int 0))), .e (ev2 dIx (evV 3) (vD (.int 1))), .e (evV 2)]))
    evNx))
    (evRet (vD .non)))
def G_l_triple : Fn := run0 1 B_l_triple
def B_l_text : M Fl :=
    (evSeq (evAsg 5 (evCall0 1 G_l_steps [.e (evV 0)]))
    (evSeq (evAsg 6 (evCall0 4 G_l_play [.e (evV 3), .e (evV 4), .e (evV 5), .e (ev2 dMulS (vD (.str ".")) (ev2 dAdd (ev2 dAdd (ev2 dIx (evV 2) (vD (.int 1))) (ev2 dIx (evV 0) (vD (.int 1)))) (evV 3)))]))
    (evSeq (evAsg 7 (evLc [11] (itL (ev2 dIx (evV 6) (vD (.int 0)))) (.n 11) (tst (ev2 dGe (evV 11) (ev2 dIx (evV 2) (vD (.int 1))))) (evV 11)))
    (evSeq (evAsg 8 (ev2 dMulS (vD (.str ".")) (ev2 dAdd (ev2 dIx (evV 6) (vD (.int 1))) (evV 3))))
    (evSeq (evAsg 9 (ev2 dIx (evV 6) (vD (.int 1))))
    (evSeq (evIf (tst (ev2 dGt (evB gLen [.e (evV 7)]) (vD (.int 0))))
    (evSeq (evAsg 8 (ev2 dAddS (ev2 dAddS (ev2 dMulS (vD (.str ".")) (ev2 dSub (ev2 dAdd (ev2 dIx (evV 7) (vD (.int 0))) (ev2 dIx (evV 2) (vD (.int 2)))) (vD (.int 1)))) (ev2 dMulS (vD (.str "#")) (ev2 dIx (evV 2) (vD (.int 0))))) (ev2 dMulS (vD (.str ".")) (ev2 dAdd (ev2 dIx (evV 0) (vD (.int 1))) (evV 3)))))
    (evAsg 9 (ev2 dSub (ev2 dAdd (ev2 dAdd (ev2 dIx (evV 7) (vD (.int 0))) (ev2 dIx (evV 2) (vD (.int 2)))) (ev2 dIx (evV 2) (vD (.int 0)))) (vD (.int 1)))))
    evNx)
    (evSeq (evAsg 10 (ev2 dIx (evCall0 4 G_l_play [.e (evV 3), .e (evV 4), .e (evV 5), .e (evV 8)]) (vD (.int 1))))
    (evSeq (evIf (tOo (tst (ev2 dLt (evV 10) (vD (.int 2)))) (tOo (tst (ev2 dGt (evV 10) (evV 9))) (tst (ev2 dNe (evCall0 2 G_l_breach [.e (evV 1), .e (evSl (evV 8) none (some (ev2 dAdd (evV 10) (evV 3))))]) (vD (.int 0))))))
    (evRet (vD (.str "")))
    evNx)
    (evRet (evSl (evV 8) none (some (ev2 dAdd (evV 10) (evV 3)))))))))))))
def G_l_text : Fn := run0 7 B_l_text
def B_l_unsound : M Fl :=
    (evSeq (evAsg 5 (vD .non))
    (evSeq (evAsg 6 (vD (.bl false)))
    (evSeq (evTryA 7 (evEx (evCall 3 G_f_trap [.e (evV 0), .e (evV 1), .e (evV 2)])) [(.DampError, false), (.BadLacquer, false), (.BadKind, false), (.BadNumber, false), (.BadHabit, false), (.TooLarge, false), (.Unsound, true), (.Strange, false)]
    (evSeq (evAsg 5 (evXf 7 .Unsound))
    (evAsg 6 (vAn (evIsE 7 [(.o .Unsound, true)]) (vAn (evIsE 7 [(.o .Unsound, true)]) (vNo (evIsE 7 [(.o .Unsound, false)])))))))
    (evSeq (evIf (tOo (tNo (tst (evV 6))) (tNo (tst (evCall0 2 G_l_same [.e (evV 5), .e (evV 4)]))))
    (evRet (vD (.bl false)))
    evNx)
    (evSeq (evAsg 8 (vD .non))
    (evSeq (evAsg 9 (vD (.bl false)))
    (evSeq (evTryA 7 (evEx (evCall 3 G_f_trap_weather [.e (evV 3), .e (evV 0), .e (evV 1)])) [(.DampError, false), (.BadLacquer, false), (.BadKind, false), (.BadNumber, false), (.BadHabit, false), (.TooLarge, false), (.Unsound, true), (.Strange, false)]
    (evSeq (evAsg 8 (evXf 7 .Unsound))
    (evAsg 9 (vAn (evIsE 7 [(.o .Unsound, true)]) (vAn (evIsE 7 [(.o .Unsound, true)]) (vNo (evIsE 7 [(.o .Unsound, false)])))))))
    (evRet (vAn (evV 9) (evCall0 2 G_l_same [.e (evV 8), .e (evV 4)]))))))))))
def G_l_unsound : Fn := run0 5 B_l_unsound
def B_l_trapped : M Fl :=
    (evSeq (evAsg 7 (evCall0 3 G_f_trap_weather [.e (evV 3), .e (evMk0 3 G_Lacquer_init .Lacquer [.e (ev2 dIx (evV 0) (vD (.int 0))), .e (ev2 dIx (evV 0) (vD (.int 1)))]), .e (evV 4)]))
    (evSeq (evIf (tst (ev2 dIs (evV 2) (vD .non)))
    (evRet (ev2 dIs (evV 7) (vD .non)))
    evNx)
    (evSeq (evAsg 8 (evCall0 5 G_l_text [.e (evV 0), .e (evV 1), .e (evV 2), .e (evV 5), .e (evV 6)]))
    (evSeq (evIf (tOo (tst (ev2 dEq (evV 8) (vD (.str "")))) (tNo (tst (evCall0 2 G_l_same [.e (evV 7), .e (evV 8)]))))
    (evRet (vD (.bl false)))
    evNx)
    (evRet (ev2 dEq (ev2 dIx (evCall0 4 G_l_play [.e (evV 5), .e (evV 6), .e (evCall0 1 G_l_steps [.e (evV 0)]), .e (evV 7)]) (vD (.int 1))) (ev2 dSub (evB gLen [.e (evV 7)]) (evV 5))))))))
def G_l_trapped : Fn := run0 2 B_l_trapped
def B_l_law : M Fl :=
    (evSeq (evAsg 1 (evCallN0 1 G_l_case (evCall0 1 G_l_pool [.e (evCall0 2 G_l_cell [.e (evV 0), .e (vD (.int 0))])]) []))
    (evSeq (evAsg 2 (ev2 dIx (evV 1) (vD (.int 0))))
    (evSeq (evAsg 3 (ev2 dIx (evV 1) (vD (.int 1))))
    (evSeq (evAsg 4 (ev2 dIx (evV 1) (vD (.int 2))))
    (evSeq (evAsg 5 (ev2 dIx (evV 1) (vD (.int 3))))
    (evSeq (evAsg 6 (evCall0 1 G_l_plain [.e (evV 3)]))
    (evSeq (evAsg 7 (evLc [17] (itL (evV 6)) (.n 17) (tst (ev2 dNe (evCall0 3 G_l_fault [.e (ev2 dIx (evV 2) (vD (.int 0))), .e (ev2 dIx (evV 2) (vD (.int 1))), .e (evV 17)]) (vD (.str "")))) (evV 17)))
    (evSeq (evAsg 8 (evBc gLst [.e (evV 3)]))
    (evSeq (evAsg 9 (evMk0 3 G_Lacquer_init .Lacquer [.e (ev2 dIx (evV 2) (vD (.int 0))), .e (ev2 dIx (evV 2) (vD (.int 1)))]))
    (evSeq (evAsg 10 (evMk0 2 G_Climate_init .Climate [.e (evV 8)]))
    (evSeq (evAsg 11 (evMk0 3 G_Habit_init .Habit [.e (evV 4), .e (evBc gLst [.e (evV 5)])]))
    (evSeq (evIf (tst (ev2 dGt (evB gLen [.e (evV 7)]) (vD (.int 0))))
    (evRet (vAn (evCall0 5 G_l_unsound [.e (evV 9), .e (evV 10), .e (evV 4), .e (evV 11), .e (ev2 dIx (evV 7) (vD (.int 0)))]) (ev2 dEq (evV 8) (evV 3))))
    evNx)
    (evSeq (evAsg 12 (evCall0 3 G_l_head [.e (ev2 dIx (evV 2) (vD (.int 0))), .e (ev2 dIx (evV 2) (vD (.int 1))), .e (evV 6)]))
    (evSeq (evAsg 13 (vD .non))
    (evSeq (evIf (tst (ev2 dLt (evV 4) (evV 12)))
    (evAsg 13 (evCall0 3 G_l_triple [.e (evV 2), .e (evV 6), .e (evV 12)]))
    evNx)
    (evSeq (evIf (tNo (tst (evCall0 2 G_l_same [.e (evCall0 3 G_f_trap [.e (evV 9), .e (evV 10), .e (evV 4)]), .e (evV 13)])))
    (evRet (vD (.bl false)))
    evNx)
    (evSeq (evAsgC 14 (evCall0 1 G_l_pool [.e (evCall0 2 G_l_cell [.e (evV 0), .e (vD (.int 1))])]))
    (evSeq (evFor (itL (evLst [.e (evCall0 2 G_l_take [.c 14, .e (vD (.int 131))]), .e (evB gMax2 [.e (vD (.int 0)), .e (ev2 dSub (evV 12) (vD (.int 1)))]), .e (evV 12), .e (ev2 dAdd (ev2 dAdd (evV 12) (vD (.int 1))) (evCall0 2 G_l_take [.c 14, .e (vD (.int 3))]))])) (.n 15)
    (evSeq (evAsg 16 (vD .non))
    (evSeq (evIf (tst (ev2 dLt (evV 15) (evV 12)))
    (evAsg 16 (evCall0 3 G_l_triple [.e (evV 2), .e (evV 6), .e (evV 12)]))
    evNx)
    (evIf (tNo (tst (evCall0 2 G_l_same [.e (evCall0 3 G_f_trap [.e (evV 9), .e (evV 10), .e (evV 15)]), .e (evV 16)])))
    (evRet (vD (.bl false)))
    evNx))))
    (evSeq (evIf (tNo (tst (evCall0 7 G_l_trapped [.e (evV 2), .e (evV 3), .e (evV 13), .e (evV 11), .e (evV 10), .e (evV 4), .e (evV 5)])))
    (evRet (vD (.bl false)))
    evNx)
    (evSeq (evIf (tNo (tst (evCall0 7 G_l_trapped [.e (evV 2), .e (evV 3), .e (evV 13), .e (evCall0 1 G_Habit_eager [.e (evV 4)]), .e (evV 10), .e (evV 4), .e (evLst [])])))
    (evRet (vD (.bl false)))
    evNx)
    (evSeq (evIf (tOo (tNo (tst (evCall0 2 G_l_same [.e (evCall0 3 G_f_trap [.e (evV 9), .e (evV 10), .e (evV 4)]), .e (evV 13)]))) (tst (ev2 dNe (evV 8) (evV 3))))
    (evRet (vD (.bl false)))
    evNx)
    (evRet (evCall0 7 G_l_trapped [.e (evV 2), .e (evV 3), .e (evV 13), .e (evV 11), .e (evV 10), .e (evV 4), .e (evV 5)])))))))))))))))))))))))
def G_l_law : Fn := run0 17 B_l_law
end DP
namespace DP
open PySem PySem.Spec PyProof.Rows L2 PL
/-- the rules, and the reckoning of slots -/
local macro_rules | `(tactic| walk_at "ys") => `(tactic| try simp (config := { maxSteps := 1000000, dsimp := false }) only [List.length_map, sg_len, sg_app, sg_dot, sg_hash, sg_nil, sg1, ↓Y_pur, ↓Y_fai, ↓Y_bnd, ↓Y_noEr, ↓Y_vD, ↓Y_evV, ↓Y_evF, ↓Y_evM, ↓Y_dat, ↓Y_tst, ↓Y_ev2, ↓Y_ev2c, ↓Y_ev1, ↓Y_seq, ↓Y_evIf, ↓Y_tNo, ↓Y_tAn, ↓Y_tOo, ↓Y_vNo, ↓Y_vAn, ↓Y_vOo, ↓Y_vIf, ↓Y_ch2, ↓Y_ch3, ↓Y_setD, ↓Y_setC, ↓Y_asg, ↓Y_asgC, ↓Y_ret, ↓Y_ex, ↓Y_nx, ↓Y_look,
  ↓Y_ds0, ↓Y_dsE, ↓Y_dsS, ↓Y_B, ↓Y_Bc, ↓Y_tup, ↓Y_lst, ↓Y_bmL, ↓Y_ixL, ↓Y_LstRg, ↓Y_SrtSt, ↓Y_setI, ↓Y_as0, ↓Y_asE, ↓Y_asC, ↓Y_callG, ↓Y_call, ↓Y_call0, ↓Y_BestN, ↓Y_st, ↓Y_ownIn, ↓Y_ownNin, ↓Y_callV, ↓Y_CallV, ↓Y_CallV0, ↓Y_CallVS, datas_0, datas_d, List.drop_succ_cons, List.drop_zero, ↓Y_own2, ↓Y_CallC, ↓Y_CallCS, ↓Y_mkL, ↓Y_callN, ↓Y_CallN, ↓Y_CallN0, ↓Y_mkG, ↓Y_mk, ↓Y_mk0, ↓Y_meth, ↓Y_methS, ↓Y_runB, ↓Y_run0, ↓Y_raise, ↓Y_raise1, ↓Y_raiseP, ↓Y_for, ↓Y_isi, ↓Y_tTr, ↓Y_fldS, ↓Y_asgN, ↓Y_dget, ↓Y_dget2, ↓Y_dput, ↓Y_sortDR, D.key, ↓Y_asgT, ↓Y_asgTt, ↓Y_asgTs0, ↓Y_asgTsC, ↓Y_part0, ↓Y_partS, ↓Y_sl, ↓Y_rev, ↓Y_vNoT, ↓Y_maxD, ↓Y_itO, ↓Y_lc, ↓Y_lc2, ↓Y_tryO, ↓Y_tryA, ↓Y_tryM, ↓Y_pick0, ↓Y_pickC, ↓Y_suiteA, eqL_ints, qe_ii, qe_bb, qe_ss, qe_nn, qe_ni, qe_in, qe_nb, qe_bn, qe_ns, qe_sn, qe_is, qe_si, qe_bs, qe_sb, in_ints, ↓Y_isE, ↓Y_js0, ↓Y_jsC, ↓Y_jn, ne_0, ne_d, ne_u, ne_c, ne_x, dFmt, cs_u, cs_d, cs_o, cs_x, okOwn, List.all_cons, List.all_nil, wipeR, restR, ↓Y_itS, ↓Y_join, ↓Y_xf, ↓Y_itL, ↓Y_itT, ↓Y_itR1, ↓Y_itET, ↓Y_itR3, ↓Y_itZ, ↓Y_itZS, ↓Y_cnt, ↓Y_itEL, ↓Y_itR2,
  List.getElem?_cons_zero, List.getElem?_cons_succ, List.getElem?_nil, List.set_cons_zero, List.set_cons_succ, List.replicate_succ, List.replicate_zero, List.cons_append, List.nil_append, List.append_nil, List.length_cons, List.length_nil, List.map_nil, List.map_cons, List.tail_cons, List.head?_cons, List.head?_nil, Option.getD_some, Option.getD_none, Option.map_some, Option.map_none, Option.bind_some, Option.bind_none, List.take_succ_cons, List.take_zero,
  at_0, at_1, at_2, at_3, at_4, at_5, at_6, at_7, ix_30, ix_31, ix_32, outs, argSl, back, updc, lkS_c, lkS_n, lk1_u, lk1_d, lk1_x, lk1_s, celsOf, fz_l, fz_k, fz_t, fz_lac, fz_cli, fz_wea, fz_rat, fz_ste, fz_web, fz_sky, fz_hab, fz_dia, pu_0, pu_lac, pu_rat, pu_web, pu_hab, ex_if, ex_so, ex_sb, lk_b, lk_bo, lk_ob, lk_o, lk_c, ty_n, ty_b, ty_i, ty_s, ty_t, ty_l, ty_q, ty_o, String.reduceEq, reduceCtorEq, reduceIte, dAdd, dSub, dMul, dDiv, dDivN, dMod, dPow, dNeg, dLt, dLe, dGt, dGe, dIx, dFld, dEq, dNe, dIs, dIsNot, dIsB, dNotB, D.isN, gLen, gInt, gMax2, gMin2, gMax3, gMin3, PL.gTup, PL.gLst, gLstO, D.items, D.litems, D.titems, D.truth, fApp, fClr, Rv.lfree, D.lfree, D.lfrees, cCat, dAddS, dMulS, dCatT,
  decide_eq_true_eq, Bool.not_eq_true', decide_eq_false_iff_not, true_and, and_true, if_true, if_false, Bool.false_eq_true, ite_true, ite_false, Bool.and_eq_true, Bool.and_true, Bool.true_and, Nat.reduceAdd, Nat.reduceLeDiff, List.nodup_nil, List.nodup_cons, List.not_mem_nil, not_false_eq_true, and_self])
theorem mOkL {i j : Int} (h : -(2 ^ 64) < i ∧ i < 2 ^ 64) : mulOk i j := .inl h
theorem mOkR {i j : Int} (h : -(2 ^ 64) < j ∧ j < 2 ^ 64) : mulOk i j := .inr (.inl h)
theorem dOk {j : Int} (h1 : 0 < j) (h2 : j < 1073741824) : divOk j := ⟨h1, .inl h2⟩
/-- a pool: three ints -/
abbrev Po (x y z : Int) : Sl := .cel .par (.lst [.int x, .int y, .int z])
theorem y_cell (ns : List Int) (k : Int) (hk : 0 ≤ k) {K : Rv → List Sl → Prop} (h : ∀ c : Int, K (.d (.int c)) [.dat (.sq (ns.map .int)), .dat (.int k)]) : Y G_l_cell [.dat (.sq (ns.map .int)), .dat (.int k)] K NX := by
  unfold G_l_cell B_l_cell
  walk_at "ys"
  split
  · rename_i c
    try rw [List.length_map] at c
    obtain ⟨n, rfl⟩ := Int.eq_ofNat_of_zero_le hk
    have l : n < ns.length := by omega
    refine ⟨_, ?_, h (ns[n])⟩
    rw [at_lt n (by simpa using l)]
    simp [l]
  · exact ⟨mOkL (by omega), h _⟩
theorem y_pool (c : Int) {K : Rv → List Sl → Prop} (h : ∀ x y z : Int, K (.c (.lst [.int x, .int y, .int z])) [.dat (.int c)]) : Y G_l_pool [.dat (.int c)] K NX := by
  unfold G_l_pool B_l_pool
  walk_at "ys"
  refine ⟨by decide, ?_⟩
  split
  · exact ⟨by decide, by omega, h _ _ _⟩
  · split
    · exact ⟨mOkL (by omega), by omega, h _ _ _⟩
    · exact ⟨mOkL (by omega), by omega, h _ _ _⟩
theorem y_take (x y z s : Int) (h1 : 1 ≤ s) (h2 : s < 1000000000) {K : Rv → List Sl → Prop} (h : ∀ d x' y' z' : Int, 0 ≤ d → d < s → K (.d (.int d)) [Po x' y' z', .dat (.int s)]) : Y G_l_take [Po x y z, .dat (.int s)] K NX := by
  unfold G_l_take B_l_take
  walk_at "ys"
  split
  · exact ⟨by omega, dOk (by omega) (by omega), h _ _ _ _ (Int.emod_nonneg _ (by omega)) (Int.emod_lt_of_pos _ (by omega))⟩
  · refine ⟨mOkL (by omega), by omega, ?_⟩
    generalize e1 : (y + 48271 * (z + 1) + 12345) % 2147483647 = u
    have u1 : 0 ≤ u ∧ u < 2147483647 := by omega
    refine ⟨mOkL (by omega), mOkL (by omega), by omega, ?_⟩
    generalize e2 : (u * u + 16807 * (z + 1) + 7) % 2147483629 = v
    have v1 : 0 ≤ v ∧ v < 2147483629 := by
      rw [← e2]; exact ⟨Int.emod_nonneg _ (by omega), Int.emod_lt_of_pos _ (by omega)⟩
    refine ⟨mOkL (by omega), mOkL (by omega), by omega, dOk (by omega) (by omega), by omega, ?_⟩
    exact h _ _ _ _ (Int.emod_nonneg _ (by omega)) (Int.emod_lt_of_pos _ (by omega))
/-- kinds as data -/
def kd (k : Int × Int) : D := .tup [.int k.1, .int k.2]
def kl (ks : List (Int × Int)) : List D := ks.map kd
theorem kl_snoc (ks : List (Int × Int)) (w g : Int) : kl ks ++ [.tup [.int w, .int g]] = kl (ks ++ [(w, g)]) := by simp [kl, kd]
theorem kl_len (ks : List (Int × Int)) : (kl ks).length = ks.length := List.length_map _
def Gd (p n : Int) (ks : List (Int × Int)) : Prop := ∀ k ∈ ks, 1 ≤ k.1 ∧ k.1 ≤ p ∧ 1 ≤ k.2 ∧ k.2 ≤ n
theorem Gd.snoc {p n : Int} {ks : List (Int × Int)} {w g : Int} (h : Gd p n ks) (a : 1 ≤ w) (b : w ≤ p) (c : 1 ≤ g) (d : g ≤ n) : Gd p n (ks ++ [(w, g)]) := by
  intro k hk
  rcases List.mem_append.mp hk with q | q
  · exact h k q
  · simp at q; subst q; exact ⟨a, b, c, d⟩
theorem rng_len (lo : Int) (n : Nat) : (rngD lo n).length = n := by simp [rngD]

theorem y_up (x y : Int) (h1 : 0 < y) (h2 : y < 1000000) {K : Rv → List Sl → Prop} (h : K (.d (.int ((x + y - 1) / y))) [.dat (.int x), .dat (.int y)]) : Y G_l_up [.dat (.int x), .dat (.int y)] K NX := by
  unfold G_l_up B_l_up
  walk_at "ys"
  exact ⟨dOk (by omega) (by omega), h⟩

abbrev La (a b : Int) : D := .obj .Lacquer [.int a, .int b]
theorem y_ceil (x y : Int) (h1 : 0 < y) (h2 : y < 1000000) {K : Rv → List Sl → Prop} {X : XC} (h : K (.d (.int (-(-x / y)))) [.dat (.int x), .dat (.int y)]) : Y G_f_ceil_div [.dat (.int x), .dat (.int y)] K X := by
  unfold G_f_ceil_div B_f_ceil_div
  walk_at "ys"
  exact ⟨dOk (by omega) (by omega), h⟩
theorem y_lac (a b : Int) (h1 : 1 ≤ a) (h2 : a < b) (h3 : b ≤ 12) {K : Rv → List Sl → Prop} {X : XC} (h : K (.d .non) [.cel .par (.obj .Lacquer [("a", .int a), ("b", .int b)]), .dat (.int a), .dat (.int b)]) : Y G_Lacquer_init [.cel .par (.obj .Lacquer []), .dat (.int a), .dat (.int b)] K X := by
  unfold G_Lacquer_init B_Lacquer_init
  walk_at "ys"
  rw [if_pos h1, if_pos h2, if_neg (by omega)]
  exact ⟨by omega, by omega, h⟩

theorem y_check_kind (w g : Int) (w1 : 1 ≤ w) (w2 : w ≤ 16) (g1 : 1 ≤ g) (g2 : g ≤ 120) {K : Rv → List Sl → Prop} {X : XC} (h : K (.d .non) [.dat (.int w), .dat (.int g)]) : Y G_f_check_kind [.dat (.int w), .dat (.int g)] K X := by
  unfold G_f_check_kind B_f_check_kind
  walk_at "ys"
  simp only [w1, w2, g1, g2, decide_true, Bool.not_true, if_true, if_false, Bool.false_eq_true]
  exact h
theorem y_check_kinds (ks : List (Int × Int)) (hg : Gd 16 120 ks) (hl : ks.length ≤ 300) {K : Rv → List Sl → Prop} {X : XC} (h : K (.d .non) [.dat (.lst (kl ks))]) : Y G_f_check_kinds [.dat (.lst (kl ks))] K X := by
  unfold G_f_check_kinds B_f_check_kinds
  walk_at "ys"
  rw [kl_len, if_neg (by omega)]
  refine Y_loop (I := fun r ρ => ∃ (ms : List (Int × Int)) (s1 s2 : Sl), r = kl ms ∧ (∀ k ∈ ms, k ∈ ks) ∧ ρ = [.dat (.lst (kl ks)), s1, s2] ∧ canSet s1 = true ∧ canSet s2 = true)
    ⟨ks, .un, .un, rfl, fun _ h => h, rfl, rfl, rfl⟩ (fun e r ρ => ?_) (fun ρ => ?_)
  · rintro ⟨ms, s1, s2, er, sub, rfl, c1, c2⟩
    cases ms with
    | nil => cases er
    | cons k ms =>
      obtain ⟨w, g⟩ := k
      cases er
      have := hg (w, g) (sub _ List.mem_cons_self)
      unfold kd
      walk_at "ys"
      refine ⟨c1, c2, ?_⟩
      refine y_check_kind _ _ this.1 this.2.1 this.2.2.1 this.2.2.2 ?_
      exact ⟨ms, _, _, rfl, fun k hk => sub k (List.mem_cons_of_mem _ hk), rfl, rfl, rfl⟩
  · rintro ⟨ms, s1, s2, er, sub, rfl, c1, c2⟩
    walk_at "ys"
    exact h

/-- pairs (w, g): the least g of those with a first number of at least w, 0 without any -/
def lr (ks : List (Int × Int)) (w : Int) : Int := ks.foldl (fun best k => if k.1 ≥ w ∧ (best = 0 ∨ k.2 < best) then k.2 else best) 0
def Pos2 (ks : List (Int × Int)) : Prop := ∀ k ∈ ks, 1 ≤ k.2
/-- what the fold has when it starts from a number -/
theorem lr_from {w : Int} : ∀ (ks : List (Int × Int)) (b : Int), Pos2 ks → 0 ≤ b →
    let r := ks.foldl (fun best k => if k.1 ≥ w ∧ (best = 0 ∨ k.2 < best) then k.2 else best) b
    0 ≤ r ∧ (b ≠ 0 → r ≠ 0 ∧ r ≤ b) ∧ (∀ k ∈ ks, k.1 ≥ w → r ≠ 0 ∧ r ≤ k.2) ∧ (r = b ∨ ∃ k ∈ ks, k.1 ≥ w ∧ r = k.2)
  | [], b, _, hb => ⟨hb, fun h => ⟨h, Int.le_refl _⟩, fun _ h => by simp at h, .inl rfl⟩
  | k :: ks, b, hp, hb => by
    have hk := hp k List.mem_cons_self
    have hp' : Pos2 ks := fun x hx => hp x (List.mem_cons_of_mem _ hx)
    have h0 : 0 ≤ (if k.1 ≥ w ∧ (b = 0 ∨ k.2 < b) then k.2 else b) := by split <;> omega
    obtain ⟨i1, i2, i3, i4⟩ := lr_from (w := w) ks _ hp' h0
    simp only [List.foldl_cons]
    refine ⟨i1, fun hb0 => ?_, fun x hx hw => ?_, ?_⟩
    · by_cases c : k.1 ≥ w ∧ (b = 0 ∨ k.2 < b)
      · rw [if_pos c] at i2 ⊢
        obtain ⟨j1, j2⟩ := i2 (by omega)
        exact ⟨j1, by omega⟩
      · rw [if_neg c] at i2 ⊢
        exact i2 hb0
    · rcases List.mem_cons.mp hx with rfl | hx
      · by_cases c : x.1 ≥ w ∧ (b = 0 ∨ x.2 < b)
        · rw [if_pos c] at i2 ⊢
          obtain ⟨j1, j2⟩ := i2 (by omega)
          exact ⟨j1, by omega⟩
        · rw [if_neg c] at i2 ⊢
          obtain ⟨j1, j2⟩ := i2 (by omega)
          exact ⟨j1, by omega⟩
      · exact i3 x hx hw
    · rcases i4 with e | ⟨x, hx, h1, h2⟩
      · by_cases c : k.1 ≥ w ∧ (b = 0 ∨ k.2 < b)
        · rw [if_pos c] at e ⊢
          exact .inr ⟨k, List.mem_cons_self, c.1, e⟩
        · rw [if_neg c] at e ⊢
          exact .inl e
      · exact .inr ⟨x, List.mem_cons_of_mem _ hx, h1, h2⟩
theorem lr_nn {ks : List (Int × Int)} (hp : Pos2 ks) (w : Int) : 0 ≤ lr ks w := (lr_from (w := w) ks 0 hp (by decide)).1
theorem lr_le {ks : List (Int × Int)} (hp : Pos2 ks) {w : Int} {k : Int × Int} (hk : k ∈ ks) (h : w ≤ k.1) : 0 < lr ks w ∧ lr ks w ≤ k.2 := by
  have z := lr_from (w := w) ks 0 hp (by decide)
  have z2 := z.2.2.1 k hk h
  have z1 := z.1
  show 0 < List.foldl _ _ _ ∧ List.foldl _ _ _ ≤ k.2
  exact ⟨by omega, z2.2⟩
theorem lr_mem {ks : List (Int × Int)} (hp : Pos2 ks) {w : Int} (h : 0 < lr ks w) : ∃ k ∈ ks, w ≤ k.1 ∧ lr ks w = k.2 := by
  rcases (lr_from (w := w) ks 0 hp (by decide)).2.2.2 with e | ⟨k, h1, h2, h3⟩
  · exact absurd (show lr ks w = 0 from e) (by omega)
  · exact ⟨k, h1, h2, h3⟩
/-- said without the fold -/
theorem lr_iff {ks : List (Int × Int)} (hp : Pos2 ks) {w r : Int} : lr ks w = r ↔ (r = 0 ∧ ∀ k ∈ ks, k.1 < w) ∨ (0 < r ∧ (∃ k ∈ ks, w ≤ k.1 ∧ k.2 = r) ∧ ∀ k ∈ ks, w ≤ k.1 → r ≤ k.2) := by
  constructor
  · rintro rfl
    by_cases h : 0 < lr ks w
    · obtain ⟨k, h1, h2, h3⟩ := lr_mem hp h
      exact .inr ⟨h, ⟨k, h1, h2, h3.symm⟩, fun k hk hw => (lr_le hp hk hw).2⟩
    · refine .inl ⟨by have := lr_nn hp w; omega, fun k hk => ?_⟩
      rcases Int.lt_or_le k.1 w with c | c
      · exact c
      · exact absurd (lr_le hp hk c).1 h
  · rintro (⟨rfl, h⟩ | ⟨h0, ⟨k, hk, hw, e⟩, h⟩)
    · by_cases c : 0 < lr ks w
      · obtain ⟨k, h1, h2, _⟩ := lr_mem hp c
        have := h k h1
        omega
      · have := lr_nn hp w
        omega
    · obtain ⟨c1, c2⟩ := lr_le hp hk hw
      obtain ⟨k2, h1, h2, h3⟩ := lr_mem hp c1
      have := h k2 h1 h2
      omega
/-- the plain list -/
def keepW (ks : List (Int × Int)) (w : Int) : Bool := decide (0 < lr ks w) && decide (lr ks w ≠ lr ks (w + 1))
def upTo (n : Nat) : List Int := (List.range n).map fun (i : Nat) => (i : Int) + 1
def pl (ks : List (Int × Int)) : List (Int × Int) := ((upTo 16).filter (keepW ks)).map fun w => (w, lr ks w)
theorem lr_mono {ks : List (Int × Int)} (hp : Pos2 ks) {v w : Int} (h : v ≤ w) : lr ks w = 0 ∨ (0 < lr ks v ∧ lr ks v ≤ lr ks w) := by
  by_cases c : 0 < lr ks w
  · obtain ⟨k, h1, h2, h3⟩ := lr_mem hp c
    have := lr_le hp h1 (w := v) (by omega)
    exact .inr ⟨this.1, by omega⟩
  · have := lr_nn hp w
    exact .inl (by omega)
/-- where it turns there is a pair with just this first number -/
theorem keep_mem {ks : List (Int × Int)} (hp : Pos2 ks) {w : Int} (h : keepW ks w = true) : ∃ k ∈ ks, k.1 = w ∧ k.2 = lr ks w := by
  unfold keepW at h
  (simp only [Bool.and_eq_true, decide_eq_true_eq] at h)
  obtain ⟨k, h1, h2, h3⟩ := lr_mem hp h.1
  rcases Int.lt_or_le w k.1 with c | c
  · have z := lr_le hp h1 (w := w + 1) (by omega)
    rcases lr_mono hp (show w ≤ w + 1 by omega) with y | y <;> omega
  · exact ⟨k, h1, by omega, h3.symm⟩
/-- between first numbers nothing turns -/
theorem lr_gap {ks : List (Int × Int)} (hp : Pos2 ks) {v w : Int} (h : v ≤ w) (hn : ∀ k ∈ ks, ¬ (v ≤ k.1 ∧ k.1 < w)) : lr ks v = lr ks w := by
  refine (lr_iff hp).mpr ?_
  by_cases c : 0 < lr ks w
  · obtain ⟨k, h1, h2, h3⟩ := lr_mem hp c
    refine .inr ⟨c, ⟨k, h1, by omega, h3.symm⟩, fun x hx hv => ?_⟩
    rcases Int.lt_or_le x.1 w with d | d
    · exact absurd ⟨hv, d⟩ (hn x hx)
    · exact (lr_le hp hx d).2
  · have z := lr_nn hp w
    refine .inl ⟨by omega, fun k hk => ?_⟩
    rcases Int.lt_or_le k.1 v with d | d
    · exact d
    · rcases Int.lt_or_le k.1 w with e | e
      · exact absurd ⟨d, e⟩ (hn k hk)
      · exact absurd (lr_le hp hk e).1 c
/-- two rising lists with the same items are one -/
theorem rise_ext : ∀ {xs ys : List Int}, xs.Pairwise (· < ·) → ys.Pairwise (· < ·) → (∀ a, a ∈ xs ↔ a ∈ ys) → xs = ys
  | [], [], _, _, _ => rfl
  | [], y :: ys, _, _, h => absurd ((h y).mpr List.mem_cons_self) (by simp)
  | x :: xs, [], _, _, h => absurd ((h x).mp List.mem_cons_self) (by simp)
  | x :: xs, y :: ys, h1, h2, h => by
    rw [List.pairwise_cons] at h1 h2
    have e : x = y := by
      rcases List.mem_cons.mp ((h x).mp List.mem_cons_self) with e | e
      · exact e
      · rcases List.mem_cons.mp ((h y).mpr List.mem_cons_self) with e2 | e2
        · exact e2.symm
        · have a := h1.1 y e2
          have b := h2.1 x e
          omega
    subst e
    rw [rise_ext h1.2 h2.2 fun a => ?_]
    constructor
    · intro ha
      rcases List.mem_cons.mp ((h a).mp (List.mem_cons_of_mem _ ha)) with e | e
      · subst e
        exact absurd (h1.1 a ha) (Int.lt_irrefl _)
      · exact e
    · intro ha
      rcases List.mem_cons.mp ((h a).mpr (List.mem_cons_of_mem _ ha)) with e | e
      · subst e
        exact absurd (h2.1 a ha) (Int.lt_irrefl _)
      · exact e
theorem upTo_mem {n : Nat} {w : Int} : w ∈ upTo n ↔ 1 ≤ w ∧ w ≤ n := by
  unfold upTo
  rw [List.mem_map]
  constructor
  · rintro ⟨i, hi, rfl⟩
    have := List.mem_range.mp hi
    omega
  · rintro ⟨h1, h2⟩
    exact ⟨(w - 1).toNat, List.mem_range.mpr (by omega), by omega⟩
theorem upTo_rise (n : Nat) : (upTo n).Pairwise (· < ·) := by
  unfold upTo
  rw [List.pairwise_map]
  exact List.Pairwise.imp (R := fun a b : Nat => a < b) (fun {a b} (h : a < b) => show (a : Int) + 1 < (b : Int) + 1 by omega) List.pairwise_lt_range
/-- the kept ones of all first numbers are the kept ones of one to sixteen -/
theorem pl_of_keys {ks : List (Int × Int)} (hp : Pos2 ks) (hw : ∀ k ∈ ks, 1 ≤ k.1 ∧ k.1 ≤ 16) {ws : List Int} (hr : ws.Pairwise (· < ·)) (hm : ∀ w, w ∈ ws ↔ ∃ k ∈ ks, k.1 = w) : (ws.filter (keepW ks)).map (fun w => (w, lr ks w)) = pl ks := by
  unfold pl
  congr 1
  refine rise_ext (hr.filter _) ((upTo_rise 16).filter _) fun a => ?_
  rw [List.mem_filter, List.mem_filter, upTo_mem, hm]
  constructor
  · rintro ⟨⟨k, hk, rfl⟩, h⟩
    have := hw k hk
    exact ⟨by omega, h⟩
  · rintro ⟨_, h⟩
    obtain ⟨k, hk, e, _⟩ := keep_mem hp h
    exact ⟨⟨k, hk, e⟩, h⟩
/-- the least second number of the pairs with just this first number -/
def mw (ks : List (Int × Int)) (w : Int) : Option Int := ks.foldl (fun o k => if k.1 = w then some (o.elim k.2 (min k.2)) else o) none
theorem mw_snoc (ks : List (Int × Int)) (k : Int × Int) (w : Int) : mw (ks ++ [k]) w = if k.1 = w then some ((mw ks w).elim k.2 (min k.2)) else mw ks w := by
  unfold mw
  rw [List.foldl_append]
  rfl
theorem mw_spec {w : Int} : ∀ (ks : List (Int × Int)) (o : Option Int), (∀ m, ks.foldl (fun o k => if k.1 = w then some (o.elim k.2 (min k.2)) else o) o = some m →
    (o = some m ∨ ∃ k ∈ ks, k.1 = w ∧ k.2 = m) ∧ (∀ x, o = some x → m ≤ x) ∧ ∀ k ∈ ks, k.1 = w → m ≤ k.2) ∧ (ks.foldl (fun o k => if k.1 = w then some (o.elim k.2 (min k.2)) else o) o = none → o = none ∧ ∀ k ∈ ks, k.1 ≠ w)
  | [], o => ⟨fun m h => ⟨.inl h, fun x hx => by
      have h' : o = some m := h
      rw [hx] at h'
      cases h'
      exact Int.le_refl _, fun _ h => by simp at h⟩, fun h => ⟨h, fun _ h => by simp at h⟩⟩
  | k :: ks, o => by
    obtain ⟨i1, i2⟩ := mw_spec (w := w) ks (if k.1 = w then some (o.elim k.2 (min k.2)) else o)
    simp only [List.foldl_cons]
    constructor
    · intro m hm
      obtain ⟨j1, j2, j3⟩ := i1 m hm
      by_cases c : k.1 = w
      · rw [if_pos c] at j1 j2
        have j2' := j2 _ rfl
        cases o with
        | none =>
          have j4 : m ≤ k.2 := j2'
          refine ⟨?_, ⟨fun x (hx : none = some x) => (nomatch hx), fun x hx hw => ?_⟩⟩
          · rcases j1 with e | ⟨x, hx, h⟩
            · exact .inr ⟨k, List.mem_cons_self, c, Option.some.inj e⟩
            · exact .inr ⟨x, List.mem_cons_of_mem _ hx, h⟩
          · rcases List.mem_cons.mp hx with rfl | hx
            · exact j4
            · exact j3 x hx hw
        | some y =>
          have j4 : m ≤ min k.2 y := j2'
          refine ⟨?_, fun x hx => ?_, fun x hx hw => ?_⟩
          · rcases j1 with e | ⟨x, hx, h⟩
            · have e' : min k.2 y = m := Option.some.inj e
              rcases Int.le_total k.2 y with z | z
              · exact .inr ⟨k, List.mem_cons_self, c, by omega⟩
              · exact .inl (by congr 1; omega)
            · exact .inr ⟨x, List.mem_cons_of_mem _ hx, h⟩
          · cases hx
            omega
          · rcases List.mem_cons.mp hx with rfl | hx
            · omega
            · exact j3 x hx hw
      · rw [if_neg c] at j1 j2
        refine ⟨?_, j2, fun x hx hw => ?_⟩
        · rcases j1 with e | ⟨x, hx, h⟩
          · exact .inl e
          · exact .inr ⟨x, List.mem_cons_of_mem _ hx, h⟩
        · rcases List.mem_cons.mp hx with rfl | hx
          · exact absurd hw c
          · exact j3 x hx hw
    · intro hm
      obtain ⟨j1, j2⟩ := i2 hm
      by_cases c : k.1 = w
      · rw [if_pos c] at j1
        cases j1
      · rw [if_neg c] at j1
        refine ⟨j1, fun x hx => ?_⟩
        (rcases List.mem_cons.mp hx with rfl | hx)
        · exact c
        · exact j2 x hx
theorem mw_some {ks : List (Int × Int)} {w m : Int} (h : mw ks w = some m) : (∃ k ∈ ks, k.1 = w ∧ k.2 = m) ∧ ∀ k ∈ ks, k.1 = w → m ≤ k.2 := by
  obtain ⟨h1, _, h3⟩ := (mw_spec ks none).1 m h
  rcases h1 with h1 | h1
  · cases h1
  · exact ⟨h1, h3⟩
theorem mw_of {ks : List (Int × Int)} {w : Int} (h : ∃ k ∈ ks, k.1 = w) : ∃ m, mw ks w = some m := by
  cases e : mw ks w with
  | some m => exact ⟨m, rfl⟩
  | none =>
    obtain ⟨k, hk, hw⟩ := h
    exact absurd hw (((mw_spec ks none).2 e).2 k hk)
/-- how the least run goes on downwards -/
theorem lr_down {ks : List (Int × Int)} (hp : Pos2 ks) {w m : Int} (h : mw ks w = some m) : lr ks w = if lr ks (w + 1) = 0 then m else min m (lr ks (w + 1)) := by
  obtain ⟨⟨k, hk, e1, e2⟩, h2⟩ := mw_some h
  have hm := hp k hk
  refine (lr_iff hp).mpr (.inr ?_)
  by_cases c : lr ks (w + 1) = 0
  · rw [if_pos c]
    refine ⟨by omega, ⟨k, hk, by omega, e2⟩, fun x hx hw => ?_⟩
    rcases Int.lt_or_le w x.1 with d | d
    · have := (lr_le hp hx (w := w + 1) (by omega)).1
      omega
    · exact h2 x hx (by omega)
  · rw [if_neg c]
    have cp : 0 < lr ks (w + 1) := by have := lr_nn hp (w + 1); omega
    obtain ⟨k2, g1, g2, g3⟩ := lr_mem hp cp
    refine ⟨by omega, ?_, fun x hx hw => ?_⟩
    · rcases Int.le_total m (lr ks (w + 1)) with d | d
      · exact ⟨k, hk, by omega, by omega⟩
      · exact ⟨k2, g1, by omega, by omega⟩
    · rcases Int.lt_or_le w x.1 with d | d
      · have := (lr_le hp hx (w := w + 1) (by omega)).2
        omega
      · have := h2 x hx (by omega)
        omega
/-- the first numbers from above: what has been kept of the first i -/
def stI (ks : List (Int × Int)) (ys : List Int) (i : Nat) : List (Int × Int) := ((ys.take i).filter (keepW ks)).map fun w => (w, lr ks w)
theorem stI_succ {ks : List (Int × Int)} {ys : List Int} {i : Nat} {w : Int} (h : ys[i]? = some w) : stI ks ys (i + 1) = stI ks ys i ++ (if keepW ks w = true then [(w, lr ks w)] else []) := by
  unfold stI
  rw [List.take_add_one, h, List.filter_append, List.map_append]
  congr 1
  show (List.filter (keepW ks) [w]).map _ = _
  by_cases c : keepW ks w = true
  · rw [if_pos c, List.filter_cons_of_pos c]
    rfl
  · rw [if_neg c, List.filter_cons_of_neg c]
    rfl
/-- behind the one at i nothing stands between it and the next one -/
theorem desc_gap {ys : List Int} (hd : ys.Pairwise (· > ·)) {i : Nat} {v w : Int} (h1 : ys[i]? = some v) (h2 : ys[i + 1]? = some w) : w < v ∧ ∀ y ∈ ys, ¬ (w + 1 ≤ y ∧ y < v) := by
  obtain ⟨l1, e1⟩ := List.getElem?_eq_some_iff.mp h1
  obtain ⟨l2, e2⟩ := List.getElem?_eq_some_iff.mp h2
  have hp := List.pairwise_iff_getElem.mp hd
  refine ⟨?_, fun y hy => ?_⟩
  · have := hp i (i + 1) l1 l2 (Nat.lt_succ_self i)
    omega
  · obtain ⟨j, hj, e⟩ := List.mem_iff_getElem.mp hy
    rintro ⟨z1, z2⟩
    rcases Nat.lt_trichotomy j i with c | c | c
    · have := hp j i hj l1 c
      omega
    · subst c
      omega
    · rcases Nat.lt_or_ge (i + 1) j with d | d
      · have := hp (i + 1) j l2 hj d
        omega
      · have : j = i + 1 := by omega
        subst this
        omega
theorem desc_top {ys : List Int} (hd : ys.Pairwise (· > ·)) {w : Int} (h : ys[0]? = some w) : ∀ y ∈ ys, y ≤ w := by
  cases ys with
  | nil => cases h
  | cons z ys =>
    cases h
    intro y hy
    (rcases List.mem_cons.mp hy with rfl | hy)
    · exact Int.le_refl _
    · exact Int.le_of_lt ((List.pairwise_cons.mp hd).1 y hy)
theorem lr_top {ks : List (Int × Int)} (hp : Pos2 ks) {w : Int} (h : ∀ k ∈ ks, k.1 ≤ w) : lr ks (w + 1) = 0 := (lr_iff hp).mpr (.inl ⟨rfl, fun k hk => by have := h k hk; omega⟩)
/-- the turn at the place i: what stands last so far, and what it says -/
theorem st_turn {ks : List (Int × Int)} (hp : Pos2 ks) {ys : List Int} (hd : ys.Pairwise (· > ·)) (hm : ∀ w, w ∈ ys ↔ ∃ k ∈ ks, k.1 = w) : ∀ (i : Nat) (w m : Int), ys[i]? = some w → mw ks w = some m →
    (stI ks ys i = [] ∧ keepW ks w = true ∧ lr ks w = m) ∨ ∃ init v, stI ks ys i = init ++ [v] ∧ ((m < v.2 ∧ keepW ks w = true ∧ lr ks w = m) ∨ (¬ m < v.2 ∧ keepW ks w = false ∧ lr ks w = v.2))
  | 0, w, m, h, e => by
    have top : lr ks (w + 1) = 0 := lr_top hp fun k hk => desc_top hd h _ ((hm _).mpr ⟨k, hk, rfl⟩)
    have dn := lr_down hp e
    rw [if_pos top] at dn
    obtain ⟨⟨k, hk, _, e2⟩, _⟩ := mw_some e
    have := hp k hk
    refine .inl ⟨rfl, ?_, dn⟩
    unfold keepW
    rw [top, dn]
    (simp only [Bool.and_eq_true, decide_eq_true_eq])
    omega
  | i + 1, w, m, h, e => by
    obtain ⟨l, _⟩ := List.getElem?_eq_some_iff.mp h
    obtain ⟨v, hv⟩ : ∃ v, ys[i]? = some v := ⟨_, List.getElem?_eq_getElem (by omega)⟩
    obtain ⟨mv, ev⟩ := mw_of ((hm v).mp (List.mem_of_getElem? hv))
    obtain ⟨g1, g2⟩ := desc_gap hd hv h
    have gap : lr ks (w + 1) = lr ks v := lr_gap hp (by omega) fun k hk => g2 _ ((hm _).mpr ⟨k, hk, rfl⟩)
    obtain ⟨⟨kv, hkv, e3, _⟩, _⟩ := mw_some ev
    have vp := (lr_le hp hkv (w := v) (by omega)).1
    have dn := lr_down hp e
    rw [gap, if_neg (by omega)] at dn
    obtain ⟨⟨k, hk, _, e2⟩, _⟩ := mw_some e
    have mp := hp k hk
    have fin : ∀ {init : List (Int × Int)} {x : Int × Int}, stI ks ys (i + 1) = init ++ [x] → x.2 = lr ks v → (m < x.2 ∧ keepW ks w = true ∧ lr ks w = m) ∨ (¬ m < x.2 ∧ keepW ks w = false ∧ lr ks w = x.2) := by
      intro init x _ ex
      rw [ex]
      by_cases c : m < lr ks v
      · refine .inl ⟨c, ?_, by omega⟩
        unfold keepW
        rw [gap]
        (simp only [Bool.and_eq_true, decide_eq_true_eq])
        omega
      · refine .inr ⟨c, ?_, by omega⟩
        unfold keepW
        rw [gap, show lr ks w = lr ks v by omega]
        simp
    right
    rcases st_turn hp hd hm i v mv hv ev with ⟨s0, kv1, e1⟩ | ⟨init, x, s1, ⟨_, kv1, e1⟩ | ⟨_, kv1, e1⟩⟩
    · have s : stI ks ys (i + 1) = [] ++ [(v, lr ks v)] := by rw [stI_succ hv, s0, if_pos kv1]
      exact ⟨_, _, s, fin s rfl⟩
    · have s : stI ks ys (i + 1) = (init ++ [x]) ++ [(v, lr ks v)] := by rw [stI_succ hv, s1, if_pos kv1]
      exact ⟨_, _, s, fin s rfl⟩
    · have s : stI ks ys (i + 1) = init ++ [x] := by rw [stI_succ hv, s1, if_neg (by rw [kv1]; simp), List.append_nil]
      exact ⟨_, _, s, fin s e1.symm⟩
theorem st_end {ks : List (Int × Int)} (hp : Pos2 ks) (hw : ∀ k ∈ ks, 1 ≤ k.1 ∧ k.1 ≤ 16) {ys : List Int} (hd : ys.Pairwise (· > ·)) (hm : ∀ w, w ∈ ys ↔ ∃ k ∈ ks, k.1 = w) : (stI ks ys ys.length).reverse = pl ks := by
  unfold stI
  rw [List.take_length, ← List.map_reverse, ← List.filter_reverse]
  exact pl_of_keys hp hw (List.pairwise_reverse.mpr hd) fun w => by rw [List.mem_reverse, hm]

theorem Gd.pos {p n : Int} {ks : List (Int × Int)} (h : Gd p n ks) : Pos2 ks := fun k hk => (h k hk).2.2.1
/-- what the dict knows of the pairs -/
def DI (ks : List (Int × Int)) (kvs : List (Key × D)) : Prop := ∃ ws : List Int, kvs.map (·.1) = ws.map Sum.inl ∧ ws.Nodup ∧ (∀ w, w ∈ ws ↔ ∃ k ∈ ks, k.1 = w) ∧ (∀ w, dval kvs (Sum.inl w) = (mw ks w).map D.int) ∧ ws.length ≤ ks.length
theorem DI.nil : DI [] [] := ⟨[], rfl, .nil, fun w => by simp, fun w => rfl, by simp⟩
theorem DI.len {ks : List (Int × Int)} {kvs : List (Key × D)} (h : DI ks kvs) : kvs.length ≤ ks.length := by
  obtain ⟨ws, h1, _, _, _, h5⟩ := h
  have := congrArg List.length h1
  rw [List.length_map, List.length_map] at this
  omega
theorem DI.put {ks : List (Int × Int)} {kvs : List (Key × D)} {k : Int × Int} (h : DI ks kvs) : DI (ks ++ [k]) (dput kvs (Sum.inl k.1) (.int ((mw ks k.1).elim k.2 (min k.2)))) := by
  obtain ⟨ws, h1, h2, h3, h4, h5⟩ := h
  have hin : (Sum.inl k.1 : Key) ∈ kvs.map (·.1) ↔ k.1 ∈ ws := by
    rw [h1, List.mem_map]
    constructor
    · rintro ⟨x, hx, e⟩
      cases e
      exact hx
    · exact fun h => ⟨_, h, rfl⟩
  have val : ∀ w, dval (dput kvs (Sum.inl k.1) (.int ((mw ks k.1).elim k.2 (min k.2)))) (Sum.inl w) = (mw (ks ++ [k]) w).map D.int := fun w => by
    rw [dval_put, mw_snoc]
    by_cases e : k.1 = w
    · subst e
      rw [if_pos rfl, if_pos rfl]
      rfl
    · rw [if_neg (fun z => e (Sum.inl.inj z).symm), if_neg e, h4]
  by_cases c : k.1 ∈ ws
  · refine ⟨ws, by rw [dput_in (hin.mpr c), h1], h2, fun w => ?_, val, by simp; omega⟩
    rw [h3]
    constructor
    · rintro ⟨x, hx, e⟩
      exact ⟨x, List.mem_append_left _ hx, e⟩
    · rintro ⟨x, hx, e⟩
      (rcases List.mem_append.mp hx with hx | hx)
      · exact ⟨x, hx, e⟩
      · have e2 : x = k := by simpa using hx
        subst e2
        rw [← e]
        exact (h3 _).mp c
  · refine ⟨ws ++ [k.1], by rw [dput_out (fun z => c (hin.mp z)), h1, List.map_append]; rfl, ?_, fun w => ?_, val, by simp; omega⟩
    · rw [List.nodup_append]
      refine ⟨h2, by simp, fun a ha b hb => ?_⟩
      have e2 : b = k.1 := by simpa using hb
      subst e2
      exact fun z => c (z ▸ ha)
    · rw [List.mem_append, h3]
      constructor
      · rintro (⟨x, hx, e⟩ | hx)
        · exact ⟨x, List.mem_append_left _ hx, e⟩
        · have e2 : w = k.1 := by simpa using hx
          exact ⟨k, by simp, e2.symm⟩
      · rintro ⟨x, hx, e⟩
        (rcases List.mem_append.mp hx with hx | hx)
        · exact .inl ⟨x, hx, e⟩
        · have e2 : x = k := by simpa using hx
          subst e2
          exact .inr (by simp [e])
theorem at_last {α : Type} (l : List α) (a : α) : atI (l ++ [a]) (-1) = some a := by
  unfold atI ixN
  rw [if_neg (by omega), if_pos (by simp; omega)]
  simp only [List.length_append, List.length_singleton, Option.bind_some]
  rw [show (-1 + ((l.length + 1 : Nat) : Int)).toNat = l.length by omega]
  simp
theorem y_plain (ks : List (Int × Int)) (hg : Gd 16 120 ks) (hl : ks.length ≤ 300) {K : Rv → List Sl → Prop} {X : XC} (h : K (.c (.lst (kl (pl ks)))) [.dat (.lst (kl ks))]) : Y G_f_plain_list [.dat (.lst (kl ks))] K X := by
  unfold G_f_plain_list B_f_plain_list
  walk_at "ys"
  refine Y_loop (I := fun r ρ => ∃ (dn rest : List (Int × Int)) (kvs : List (Key × D)) (s2 s3 : Sl), ks = dn ++ rest ∧ r = kl rest ∧ DI dn kvs ∧ ρ = [.dat (.lst (kl ks)), .cel .own (.dK kvs), s2, s3, .un] ∧ canSet s2 = true ∧ canSet s3 = true)
    ⟨[], ks, [], .un, .un, rfl, rfl, DI.nil, rfl, rfl, rfl⟩ (fun e r ρ => ?_) (fun ρ => ?_)
  · rintro ⟨dn, rest, kvs, s2, s3, ek, er, hD, rfl, c2, c3⟩
    cases rest with
    | nil => cases er
    | cons k rest =>
      obtain ⟨w, g⟩ := k
      cases er
      have step := hD.put (k := (w, g))
      have hv : dval kvs (Sum.inl w) = (mw dn w).map D.int := let ⟨_, _, _, _, z, _⟩ := hD; z w
      have hn : kvs.length < 16777216 := by have := hD.len; have := congrArg List.length ek; simp at this; omega
      unfold kd
      walk_at "ys"
      refine ⟨c2, c3, ?_⟩
      have fin : ∀ m, m = (mw dn w).elim g (min g) → ∃ (dn rest' : List (Int × Int)) (kvs' : List (Key × D)) (s2 s3 : Sl), ks = dn ++ rest' ∧ kl rest = kl rest' ∧ DI dn kvs' ∧ [Sl.dat (.lst (kl ks)), .cel .own (.dK (dput kvs (Sum.inl w) (.int m))), .dat (.int w), .dat (.int g), .un] = [.dat (.lst (kl ks)), .cel .own (.dK kvs'), s2, s3, .un] ∧ canSet s2 = true ∧ canSet s3 = true := by
        rintro m rfl
        exact ⟨dn ++ [(w, g)], rest, _, _, _, by rw [ek]; simp, rfl, step, rfl, rfl, rfl⟩
      rw [hv]
      cases hm : mw dn w with
      | none =>
        walk_at "ys"
        refine ⟨hn, fin _ ?_⟩
        rw [hm]
        show min g g = g
        omega
      | some m =>
        walk_at "ys"
        refine ⟨hn, fin _ ?_⟩
        rw [hm]; rfl
  · rintro ⟨dn, rest, kvs, s2, s3, ek, er, hD, rfl, c2, c3⟩
    cases rest with
    | cons => cases er
    | nil =>
    rw [List.append_nil] at ek
    subst ek
    obtain ⟨ws, w1, w2, w3, w4, w5⟩ := id hD
    walk_at "ys"
    refine ⟨_, keysI_of w1, ?_⟩
    have yp := down_perm ws
    have ydesc : (down ws).Pairwise (· > ·) := (List.pairwise_and_iff.mpr ⟨down_srt ws, yp.nodup_iff.mpr w2⟩).imp fun {a b} h => by
      have h1 : a ≥ b := h.1
      have h2 : a ≠ b := h.2
      show a > b
      omega
    have ymem : ∀ w, w ∈ down ws ↔ ∃ k ∈ ks, k.1 = w := fun w => yp.mem_iff.trans (w3 w)
    have yl : (down ws).length = ws.length := yp.length_eq
    generalize down ws = yy at *
    refine Y_loop (I := fun r ρ => ∃ (i : Nat) (s2 : Sl), r = (yy.drop i).map D.int ∧ i ≤ yy.length ∧ ρ = [.dat (.lst (kl ks)), .cel .own (.dK kvs), s2, s3, .cel .own (.lst (kl (stI ks yy i)))] ∧ canSet s2 = true)
      ⟨0, s2, rfl, Nat.zero_le _, rfl, c2⟩ (fun e r ρ => ?_) (fun ρ => ?_)
    · rintro ⟨i, s2, er, il, rfl, c2⟩
      have hi : i < yy.length := by
        rcases Nat.lt_or_ge i yy.length with c | c
        · exact c
        · rw [List.drop_eq_nil_of_le c] at er; cases er
      have hw : yy[i]? = some yy[i] := List.getElem?_eq_getElem hi
      generalize yy[i] = w at hw
      have ed : yy.drop i = w :: yy.drop (i + 1) := by
        rw [List.drop_eq_getElem_cons hi]
        have := List.getElem?_eq_getElem hi
        rw [hw] at this
        cases this
        rfl
      rw [ed] at er
      cases er
      obtain ⟨m, em⟩ := mw_of ((ymem w).mp (List.mem_of_getElem? hw))
      have hval : dval kvs (Sum.inl w) = some (.int m) := by rw [w4, em]; rfl
      have sz : (stI ks yy i).length < 16777216 := by
        unfold stI
        try rw [List.length_map]
        exact Nat.lt_of_le_of_lt (List.length_filter_le _ _) (by rw [List.length_take]; omega)
      have sucT : keepW ks w = true → lr ks w = m → stI ks yy (i + 1) = stI ks yy i ++ [(w, m)] := fun c1 c2 => by rw [stI_succ hw, if_pos c1, c2]
      have sucF : keepW ks w = false → stI ks yy (i + 1) = stI ks yy i := fun c1 => by rw [stI_succ hw, if_neg (by rw [c1]; simp), List.append_nil]
      walk_at "ys"
      refine ⟨c2, ?_⟩
      rcases st_turn hg.pos ydesc ymem i w m hw em with ⟨s0, c1, c2⟩ | ⟨init, x, s1, c⟩
      · rw [s0]
        simp only [kl, List.map_nil, List.isEmpty_nil, Bool.not_true, Bool.not_false, if_true]
        rw [hval]
        walk_at "ys"
        refine ⟨by omega, i + 1, .dat (.int w), rfl, hi, ?_, rfl⟩
        rw [sucT c1 c2, s0]
        rfl
      · have e1 : kl (stI ks yy i) = kl init ++ [kd x] := by rw [s1]; simp [kl]
        rw [← kl_len] at sz
        rw [e1] at sz ⊢
        have ne : (kl init ++ [kd x]).isEmpty = false := by simp
        rw [ne, at_last, if_neg (by decide), hval]
        obtain ⟨xw, xg⟩ := x
        simp only [kd] at e1 sz ⊢
        walk_at "ys"
        rcases c with ⟨c, k1, k2⟩ | ⟨c, k1, k2⟩
        · rw [if_pos c]
          refine ⟨sz, i + 1, .dat (.int w), rfl, hi, ?_, rfl⟩
          rw [sucT k1 k2, ← kl_snoc, e1]
        · rw [if_neg c]
          refine ⟨i + 1, .dat (.int w), rfl, hi, ?_, rfl⟩
          rw [sucF k1, e1]
    · rintro ⟨i, s2, er, il, rfl, c2⟩
      have : i = yy.length := by
        rcases Nat.lt_or_ge i yy.length with c | c
        · rw [List.drop_eq_getElem_cons c] at er; cases er
        · omega
      subst this
      walk_at "ys"
      have := st_end hg.pos (fun k hk => ⟨(hg k hk).1, (hg k hk).2.1⟩) ydesc ymem
      unfold kl
      rw [← List.map_reverse, this]
      exact h

/-- a climate as data -/
abbrev Ci (ks : List (Int × Int)) : D := .obj .Climate [.tup (kl (pl ks))]
theorem pl_len (ks : List (Int × Int)) : (pl ks).length ≤ 16 := by
  unfold pl
  try rw [List.length_map]
  exact Nat.le_trans (List.length_filter_le _ _) (by simp [upTo])
theorem y_clim (ks : List (Int × Int)) (hg : Gd 16 120 ks) (hl : ks.length ≤ 300) {K : Rv → List Sl → Prop} {X : XC} (h : K (.d .non) [.cel .par (.obj .Climate [("kinds", .tup (kl (pl ks)))]), .dat (.lst (kl ks))]) : Y G_Climate_init [.cel .par (.obj .Climate []), .dat (.lst (kl ks))] K X := by
  unfold G_Climate_init B_Climate_init
  walk_at "ys"
  refine y_check_kinds ks hg hl ?_
  walk_at "ys"
  refine y_plain ks hg hl ?_
  walk_at "ys"
  exact ⟨by omega, h⟩
/-- the longest spell that climbs to a run -/
def wl (ks : List (Int × Int)) (r : Int) : Int := OW.maxL 0 ((ks.filter fun k => decide (k.2 ≤ r)).map (·.1))
theorem gmax_ints {ns : List Int} {d : Int} : gMaxD d [.lst (ns.map D.int)] = some (.int (OW.maxL d ns)) := by
  unfold gMaxD lints
  simp only [D.litems, Option.bind_some, D.ints_map, Option.map_some]

theorem maxL0 : ∀ {ns : List Int}, (∀ n ∈ ns, 0 ≤ n) → OW.maxL 0 ns = ns.foldl max 0
  | [], _ => rfl
  | n :: ns, h => by
    show ns.foldl max n = ns.foldl max (max 0 n)
    have := h n List.mem_cons_self
    rw [show max 0 n = n by omega]
theorem wl_snoc {ks : List (Int × Int)} {k : Int × Int} {r : Int} (h : ∀ k ∈ ks, 0 ≤ k.1) (hk : 0 ≤ k.1) : wl (ks ++ [k]) r = if k.2 ≤ r then max (wl ks r) k.1 else wl ks r := by
  have p : ∀ n ∈ (ks.filter fun k => decide (k.2 ≤ r)).map (·.1), 0 ≤ n := fun n hn => by
    obtain ⟨q, hq, rfl⟩ := List.mem_map.mp hn
    exact h q (List.mem_filter.mp hq).1
  unfold wl
  rw [List.filter_append, List.map_append]
  by_cases c : k.2 ≤ r
  · rw [if_pos c]
    have e : [k].filter (fun k => decide (k.2 ≤ r)) = [k] := by simp [c]
    rw [e, maxL0 (by intro n hn; rcases List.mem_append.mp hn with q | q; exact p n q; simp at q; omega), maxL0 p, List.foldl_append]
    rfl
  · rw [if_neg c]
    have e : [k].filter (fun k => decide (k.2 ≤ r)) = [] := by simp [c]
    rw [e, List.map_nil, List.append_nil]
theorem ceil_of {a h k : Int} (ha : 0 < a) (h1 : (k - 1) * a < h) (h2 : h ≤ k * a) : -(-h / a) = k := by
  have e1 : -k ≤ -h / a := (Int.le_ediv_iff_mul_le ha).mpr (by rw [Int.neg_mul]; omega)
  have e2 : -h / a < -k + 1 := (Int.ediv_lt_iff_lt_mul ha).mpr (by
    have : (-k + 1) * a = -((k - 1) * a) := by rw [← Int.neg_mul]; congr 1; omega
    omega)
  omega
theorem ceil_sp {a h : Int} (ha : 0 < a) : (-(-h / a) - 1) * a < h ∧ h ≤ -(-h / a) * a := by
  have e := Int.mul_ediv_add_emod (-h) a
  have m1 := Int.emod_nonneg (-h) (by omega : a ≠ 0)
  have m2 := Int.emod_lt_of_pos (-h) ha
  rw [Int.sub_mul, Int.neg_mul, Int.one_mul, Int.mul_comm]
  omega
/-- a place at this distance is good -/
def gd (a b W h : Int) : Bool := decide (h + W ≤ -(-h / a) * b)
theorem gd_of {a b W h k : Int} (ha : 0 < a) (h1 : (k - 1) * a < h) (h2 : h ≤ k * a) : gd a b W h = decide (h + W ≤ k * b) := by
  unfold gd
  rw [ceil_of ha h1 h2]
/-- the good places of a run -/
def gp (a b W L : Int) : List Int := (upTo L.toNat).filter fun p => gd a b W (L - p + 1)
theorem gp_mem {a b W L p : Int} : p ∈ gp a b W L ↔ (1 ≤ p ∧ p ≤ L) ∧ gd a b W (L - p + 1) = true := by
  unfold gp
  rw [List.mem_filter, upTo_mem]
  constructor
  · rintro ⟨⟨h1, h2⟩, h3⟩
    exact ⟨⟨h1, by omega⟩, h3⟩
  · rintro ⟨⟨h1, h2⟩, h3⟩
    exact ⟨⟨h1, by omega⟩, h3⟩
theorem gp_rise {a b W L : Int} : (gp a b W L).Pairwise (· < ·) := (upTo_rise _).filter _
/-- so far, block by block -/
def Bl (a b W L c : Int) (ps : List Int) : Prop := ps.Pairwise (· < ·) ∧ ∀ p, p ∈ ps ↔ (1 ≤ p ∧ p ≤ c) ∧ gd a b W (L - p + 1) = true
theorem Bl.nil {a b W L c : Int} (h : c ≤ 0) : Bl a b W L c [] := ⟨.nil, fun p => ⟨fun q => by simp at q, fun q => by omega⟩⟩
theorem Bl.gp {a b W L : Int} {ps : List Int} (h : Bl a b W L L ps) : ps = gp a b W L := rise_ext h.1 gp_rise fun p => (h.2 p).trans gp_mem.symm
def iv (lo : Int) (n : Nat) : List Int := (List.range n).map fun (o : Nat) => lo + (o : Int)
theorem iv_mem {lo p : Int} {n : Nat} : p ∈ iv lo n ↔ lo ≤ p ∧ p < lo + n := by
  unfold iv
  rw [List.mem_map]
  constructor
  · rintro ⟨i, hi, rfl⟩
    have := List.mem_range.mp hi
    omega
  · rintro ⟨h1, h2⟩
    exact ⟨(p - lo).toNat, List.mem_range.mpr (by omega), by omega⟩
theorem iv_rise {lo : Int} {n : Nat} : (iv lo n).Pairwise (· < ·) := by
  unfold iv
  rw [List.pairwise_map]
  exact List.Pairwise.imp (R := fun a b : Nat => a < b) (fun {a b} (h : a < b) => show lo + (a : Int) < lo + (b : Int) by omega) List.pairwise_lt_range
theorem Bl.step {a b W L k : Int} {ps : List Int} (ha : 0 < a) (hk : (k - 1) * a < L) (h : Bl a b W L (L - k * a) ps) :
    Bl a b W L (L - (k - 1) * a) (ps ++ iv (L - min L (min (k * a) (k * b - W)) + 1) (min L (min (k * a) (k * b - W)) - (k - 1) * a).toNat) := by
  have e : k * a = (k - 1) * a + a := by rw [Int.sub_mul, Int.one_mul]; omega
  obtain ⟨h1, h2⟩ := h
  generalize hka : k * a = ka at *
  generalize hk1 : (k - 1) * a = k1 at *
  have g : ∀ p, k1 < L - p + 1 → L - p + 1 ≤ ka → gd a b W (L - p + 1) = decide (L - p + 1 + W ≤ k * b) := fun p a1 a2 => gd_of ha (by omega) (by omega)
  generalize k * b = kb at *
  refine ⟨List.pairwise_append.mpr ⟨h1, iv_rise, fun x hx y hy => ?_⟩, fun p => ?_⟩
  · have hx := ((h2 x).mp hx).1
    have hy := iv_mem.mp hy
    omega
  · rw [List.mem_append, h2, iv_mem]
    constructor
    · rintro (⟨q1, q2⟩ | q)
      · exact ⟨by omega, q2⟩
      · refine ⟨by omega, ?_⟩
        rw [g p (by omega) (by omega), decide_eq_true_eq]
        omega
    · rintro ⟨q1, q2⟩
      rcases Int.lt_or_le (L - ka) p with c | c
      · rw [g p (by omega) (by omega), decide_eq_true_eq] at q2
        exact .inr (by omega)
      · exact .inl ⟨by omega, q2⟩
/-- the walk from a place on -/
def wk (a : Int) : List Int → Int → List Int
  | [], _ => []
  | x :: xs, s => if s ≤ x then x :: wk a xs (x + a) else wk a xs s
/-- the closed row's places -/
def cp (a b W p T rest : Int) (j : Int) : Int := p + j * a + max 0 (W - rest - (T - j) * (b - a))
/-- the longest spell of the plain list is that of the kinds -/
theorem wl_le {ks : List (Int × Int)} {r : Int} {k : Int × Int} (hk : k ∈ ks) (h : k.2 ≤ r) (hn : ∀ k ∈ ks, 0 ≤ k.1) : k.1 ≤ wl ks r := by
  unfold wl
  rw [maxL0 (fun n hn' => by
    obtain ⟨q, hq, rfl⟩ := List.mem_map.mp hn'
    exact hn q (List.mem_filter.mp hq).1)]
  exact (foldl_max' _ 0).2.1 _ (List.mem_map.mpr ⟨k, List.mem_filter.mpr ⟨hk, by simpa using h⟩, rfl⟩)
theorem pl_sub {ks : List (Int × Int)} (hp : Pos2 ks) {k : Int × Int} (h : k ∈ pl ks) : k ∈ ks := by
  unfold pl at h
  obtain ⟨w, hw, rfl⟩ := List.mem_map.mp h
  obtain ⟨k, hk, e1, e2⟩ := keep_mem hp (List.mem_filter.mp hw).2
  obtain ⟨k1, k2⟩ := k
  simp only at e1 e2
  subst e1 e2
  exact hk
theorem pl_top {ks : List (Int × Int)} (hp : Pos2 ks) (hw : ∀ k ∈ ks, 1 ≤ k.1 ∧ k.1 ≤ 16) {k : Int × Int} (h : k ∈ ks) : ∃ q ∈ pl ks, k.1 ≤ q.1 ∧ q.2 ≤ k.2 := by
  -- climb as long as the least run stays
  have go : ∀ (n : Nat) (w : Int), (n : Int) = 17 - w → 1 ≤ w → 0 < lr ks w → ∃ q ∈ pl ks, w ≤ q.1 ∧ q.2 = lr ks w := by
    intro n
    induction n with
    | zero =>
      intro w e w1 h
      obtain ⟨k, hk, c, _⟩ := lr_mem hp h
      have := hw k hk
      omega
    | succ n ih =>
      intro w e w1 h
      by_cases c : lr ks w = lr ks (w + 1)
      · obtain ⟨q, hq, q1, q2⟩ := ih (w + 1) (by omega) (by omega) (by omega)
        exact ⟨q, hq, by omega, by omega⟩
      · refine ⟨(w, lr ks w), ?_, Int.le_refl _, rfl⟩
        unfold pl
        refine List.mem_map.mpr ⟨w, List.mem_filter.mpr ⟨upTo_mem.mpr ⟨w1, by omega⟩, ?_⟩, rfl⟩
        unfold keepW
        simp [h, c]
  have := hw k h
  have l := lr_le hp h (Int.le_refl k.1)
  obtain ⟨q, hq, q1, q2⟩ := go (17 - k.1).toNat k.1 (by omega) (by omega) l.1
  exact ⟨q, hq, q1, by omega⟩
theorem up_ceil {w s : Int} (hs : 0 < s) : -(-w / s) = (w + s - 1) / s := by
  have e := Int.mul_ediv_add_emod (w + s - 1) s
  have m1 := Int.emod_nonneg (w + s - 1) (by omega : s ≠ 0)
  have m2 := Int.emod_lt_of_pos (w + s - 1) hs
  refine ceil_of hs ?_ ?_
  · rw [Int.sub_mul, Int.one_mul, Int.mul_comm]; omega
  · rw [Int.mul_comm]; omega
/-- the lead of a spell -/
def ld (a b w : Int) : Int := ((w + (b - a) - 1) / (b - a) - 1) * a
/-- the kinds of the greatest sound climate -/
def tops (a b : Int) : List (Int × Int) := (iv 1 (-(-(b - 1) / (b - a))).toNat).map fun j => (min (b - 1) (j * (b - a)), (j - 1) * a + 1)
/-- the longest spell that is sound behind a run -/
def mx (a b g : Int) : Int := wl (tops a b) g
/-- the first kind of the one that the other lets not -/
def due (a b c d : Int) : Option Int := (iv 1 120).find? fun g => decide (mx c d g < mx a b g)
theorem pl_gd {ks : List (Int × Int)} (hg : Gd 16 120 ks) : Gd 16 120 (pl ks) := fun k hk => hg k (pl_sub hg.pos hk)

theorem rngc {lo : Int} {n i : Nat} (h : i < n) : (rngD lo n).drop i = D.int (lo + i) :: (rngD lo n).drop (i + 1) := by
  have l : i < (rngD lo n).length := by rw [rng_len]; exact h
  rw [List.drop_eq_getElem_cons l]
  simp [rngD]
theorem rngc_end {lo : Int} {n i : Nat} (h : n ≤ i) : (rngD lo n).drop i = [] := List.drop_eq_nil_of_le (by rw [rng_len]; exact h)
theorem rngc_lt {lo : Int} {n i : Nat} {x : D} {r : List D} (e : x :: r = (rngD lo n).drop i) : i < n ∧ x = .int (lo + i) ∧ r = (rngD lo n).drop (i + 1) := by
  rcases Nat.lt_or_ge i n with q | q
  · rw [rngc q] at e
    cases e
    exact ⟨q, rfl, rfl⟩
  · rw [rngc_end q] at e
    cases e
theorem rngc_ge {lo : Int} {n i : Nat} (e : [] = (rngD lo n).drop i) : n ≤ i := by
  rcases Nat.lt_or_ge i n with q | q
  · rw [rngc q] at e
    cases e
  · exact q

/-- a loop's name is set, then the body -/
theorem Y_tgN {i : Nat} {x : D} {ρ : List Sl} {P : List Sl → Prop} {s : Sl} (h : ρ[i]? = some s) (c : canSet s = true) (p : P (ρ.set i (.dat x))) : Y (asgT (.n i) x) ρ (fun f ρ1 => f = .nx ∧ P ρ1) NX := by
  rw [Y_asgN, Y_setD]
  exact ⟨s, h, c, rfl, p⟩

theorem y_longestL (ks : List (Int × Int)) (r : Int) (hg : ∀ k ∈ ks, 0 ≤ k.1) {K : Rv → List Sl → Prop} (h : K (.d (.int (wl ks r))) [.dat (.lst (kl ks)), .dat (.int r)]) : Y G_l_longest [.dat (.lst (kl ks)), .dat (.int r)] K NX := by
  unfold G_l_longest B_l_longest
  walk_at "ys"
  refine Y_loop (I := fun q ρ => ∃ (dn rest : List (Int × Int)) (s : Sl), ks = dn ++ rest ∧ q = kl rest ∧ ρ = [.dat (.lst (kl ks)), .dat (.int r), .dat (.int (wl dn r)), s] ∧ canSet s = true)
    ⟨[], ks, .un, rfl, rfl, rfl, rfl⟩ (fun e q ρ => ?_) (fun ρ => ?_)
  · rintro ⟨dn, rest, s, ek, er, rfl, c⟩
    cases rest with
    | nil => cases er
    | cons k rest =>
      obtain ⟨w, g⟩ := k
      cases er
      have hd : ∀ k ∈ dn, 0 ≤ k.1 := fun k hk => hg k (by rw [ek]; exact List.mem_append_left _ hk)
      have sn := wl_snoc (r := r) (k := (w, g)) hd (hg (w, g) (by rw [ek]; simp))
      have done : ∀ v, v = wl (dn ++ [(w, g)]) r → ∃ (dn' rest' : List (Int × Int)) (s : Sl), ks = dn' ++ rest' ∧ kl rest = kl rest' ∧ [Sl.dat (.lst (kl ks)), .dat (.int r), .dat (.int v), .dat (.tup [.int w, .int g])] = [.dat (.lst (kl ks)), .dat (.int r), .dat (.int (wl dn' r)), s] ∧ canSet s = true := by
        rintro v rfl
        exact ⟨dn ++ [(w, g)], rest, _, by rw [ek]; simp, rfl, rfl, rfl⟩
      unfold kd
      walk_at "ys"
      refine ⟨c, ?_⟩
      rw [sn] at done
      simp only at done
      split
      · rename_i c1
        rw [if_pos c1] at done
        split
        · exact done _ (by omega)
        · exact done _ (by omega)
      · rename_i c1
        rw [if_neg c1] at done
        exact done _ rfl
  · rintro ⟨dn, rest, s, ek, er, rfl, c⟩
    cases rest with
    | cons => cases er
    | nil =>
      rw [List.append_nil] at ek
      subst ek
      walk_at "ys"
      exact h

theorem y_slack (a b : Int) {K : Rv → List Sl → Prop} {X : XC} (h : K (.d (.int (b - a))) [.dat (La a b)]) : Y G_Lacquer_slack [.dat (La a b)] K X := by
  unfold G_Lacquer_slack B_Lacquer_slack
  walk_at "ys"
  exact h
theorem y_spans (a b w : Int) (h1 : a < b) (h3 : b ≤ 100) (h4 : 0 ≤ a) (hw : 0 ≤ w) {K : Rv → List Sl → Prop} {X : XC} (h : K (.d (.int (-(-w / (b - a))))) [.dat (La a b), .dat (.int w)]) : Y G_Lacquer_spans [.dat (La a b), .dat (.int w)] K X := by
  unfold G_Lacquer_spans B_Lacquer_spans
  walk_at "ys"
  rw [if_neg (by omega)]
  refine y_slack a b ?_
  walk_at "ys"
  refine y_ceil _ _ (by omega) (by omega) ?_
  exact h
theorem y_leadP (a b w : Int) (h1 : 1 ≤ a) (h2 : a < b) (h3 : b ≤ 12) (hw : 1 ≤ w) {K : Rv → List Sl → Prop} {X : XC} (h : K (.d (.int (ld a b w))) [.dat (La a b), .dat (.int w)]) : Y G_Lacquer_lead [.dat (La a b), .dat (.int w)] K X := by
  unfold G_Lacquer_lead B_Lacquer_lead
  walk_at "ys"
  rw [if_neg (by omega)]
  refine y_spans a b w h2 (by omega) (by omega) (by omega) ?_
  walk_at "ys"
  refine ⟨mOkR (by omega), ?_⟩
  unfold ld at h
  rw [up_ceil (by omega)]
  exact h
/-- a kind that is sound -/
def sk (a b : Int) (k : Int × Int) : Bool := decide (k.1 < b) && decide (ld a b k.1 < k.2)
theorem y_is_sound_kind (a b w g : Int) (h1 : 1 ≤ a) (h2 : a < b) (h3 : b ≤ 12) (hw : 1 ≤ w) {K : Rv → List Sl → Prop} {X : XC} (h : K (.d (.bl (sk a b (w, g)))) [.dat (La a b), .dat (.int w), .dat (.int g)]) : Y G_f_is_sound_kind [.dat (La a b), .dat (.int w), .dat (.int g)] K X := by
  unfold G_f_is_sound_kind B_f_is_sound_kind
  unfold sk at h
  walk_at "ys"
  split
  · rename_i c
    rw [decide_eq_true c] at h
    refine y_leadP a b w h1 h2 h3 hw ?_
    walk_at "ys"
    exact h
  · rename_i c
    rw [decide_eq_false c] at h
    exact h
def wrd (b w : Int) : Str := if b ≤ w then "long" else "close"
theorem y_fault' (a b w : Int) {K : Rv → List Sl → Prop} {X : XC} (h : K (.d (.str (wrd b w))) [.dat (La a b), .dat (.int w)]) : Y G_f_fault [.dat (La a b), .dat (.int w)] K X := by
  unfold G_f_fault B_f_fault
  unfold wrd at h
  walk_at "ys"
  split
  · rename_i c
    rw [if_pos c] at h; exact h
  · rename_i c
    rw [if_neg c] at h; exact h
def badF (a b : Int) (x : D) : Option D := match x with | .tup [.int w, .int g] => if sk a b (w, g) = true then none else some (.tup [.int w, .int g, .str (wrd b w)]) | _ => none
theorem y_bad_kinds (a b : Int) (ks : List (Int × Int)) (h1 : 1 ≤ a) (h2 : a < b) (h3 : b ≤ 12) (hg : Gd 16 120 ks) {K : Rv → List Sl → Prop} {X : XC} (h : K (.c (.lst ((kl (pl ks)).filterMap (badF a b)))) [.dat (La a b), .dat (Ci ks)]) : Y G_f_bad_kinds [.dat (La a b), .dat (Ci ks)] K X := by
  unfold G_f_bad_kinds B_f_bad_kinds
  walk_at "ys"
  refine Y_lcGo (f := badF a b) (ρ0 := [.dat (La a b), .dat (Ci ks), .un, .un]) (P := fun x => ∃ k ∈ pl ks, x = kd k) (fun x acc ⟨k, hk, e⟩ hl => ?_) _ _ (fun x hx => ?_) ?_ ?_
  · subst e
    have := hg k (pl_sub hg.pos hk)
    obtain ⟨w, g⟩ := k
    rw [show badF a b (kd (w, g)) = if sk a b (w, g) = true then none else some (.tup [.int w, .int g, .str (wrd b w)]) from rfl]
    unfold kd
    walk_at "ys"
    refine y_is_sound_kind a b w g h1 h2 h3 this.1 ?_
    walk_at "ys"
    cases c : sk a b (w, g) with
    | true => simp
    | false =>
      walk_at "ys"
      refine y_fault' a b w ?_
      walk_at "ys"
  · obtain ⟨k, hk, e⟩ := List.mem_map.mp hx
    exact ⟨k, hk, e.symm⟩
  · have := pl_len ks
    rw [kl_len]
    simp
    omega
  · rw [List.nil_append]
    walk_at "ys"
    exact h
/-- all kinds are sound -/
def snd (a b : Int) (ks : List (Int × Int)) : Bool := decide ((ks.filter fun k => !sk a b k).length = 0)
def bdK (a b : Int) (ks : List (Int × Int)) : List (Int × Int) := (pl ks).filter fun k => !sk a b k
theorem badF_fm {a b : Int} : ∀ ms : List (Int × Int), (kl ms).filterMap (badF a b) = (ms.filter fun k => !sk a b k).map fun k => .tup [.int k.1, .int k.2, .str (wrd b k.1)]
  | [] => rfl
  | k :: ms => by
    have e1 : kl (k :: ms) = kd k :: kl ms := rfl
    have e2 : badF a b (kd k) = if sk a b k = true then none else some (.tup [.int k.1, .int k.2, .str (wrd b k.1)]) := rfl
    rw [e1, List.filterMap_cons, badF_fm ms, List.filter_cons, e2]
    cases sk a b k <;> rfl
theorem lg_small {i : Int} (h0 : 0 ≤ i) (h : i < 1000) : i.natAbs.log2 < 1920 := by
  have e : i.natAbs < 2 ^ 11 := by omega
  rcases Nat.eq_zero_or_pos i.natAbs with z | z
  · rw [z]; decide
  · have := (Nat.log2_lt (n := i.natAbs) (k := 11) (by omega)).mpr e
    omega
theorem fmt_kd {w g : Int} (w0 : 0 ≤ w) (w1 : w < 1000) (g0 : 0 ≤ g) (g1 : g < 1000) : fmtD (.tup [.int w, .int g]) = true := by
  show (decide ([w, g].length ≤ 4) && [w, g].all fun i => decide (i.natAbs.log2 < 1920)) = true
  simp only [List.all_cons, List.all_nil, decide_eq_true (lg_small w0 (by omega)), decide_eq_true (lg_small g0 (by omega))]
  rfl
theorem y_check_sound (a b : Int) (ks : List (Int × Int)) (h1 : 1 ≤ a) (h2 : a < b) (h3 : b ≤ 12) (hg : Gd 16 120 ks) {K : Rv → List Sl → Prop} {X : XC} (h : bdK a b ks = [] → K (.d .non) [.dat (La a b), .dat (Ci ks)])
    (hx : ∀ k r, bdK a b ks = k :: r → X .Unsound (some (kd k)) [.dat (La a b), .dat (Ci ks)]) : Y G_f_check_sound [.dat (La a b), .dat (Ci ks)] K X := by
  unfold G_f_check_sound B_f_check_sound
  walk_at "ys"
  refine y_bad_kinds a b ks h1 h2 h3 hg ?_
  walk_at "ys"
  rw [badF_fm]
  unfold bdK at h hx
  cases e : (pl ks).filter fun k => !sk a b k with
  | nil =>
    walk_at "ys"
    exact h e
  | cons k r =>
    have hk := pl_gd hg k (List.mem_filter.mp (show k ∈ (pl ks).filter fun k => !sk a b k by rw [e]; simp)).1
    walk_at "ys"
    exact ⟨fmt_kd (by omega) (by omega) (by omega) (by omega), hx k r e⟩

theorem y_leadL (a b w : Int) (h1 : 1 ≤ a) (h2 : a < b) (h3 : b ≤ 12) {K : Rv → List Sl → Prop} (h : K (.d (.int (ld a b w))) [.dat (.int a), .dat (.int b), .dat (.int w)]) : Y G_l_lead [.dat (.int a), .dat (.int b), .dat (.int w)] K NX := by
  unfold G_l_lead B_l_lead
  walk_at "ys"
  refine y_up _ _ (by omega) (by omega) ?_
  walk_at "ys"
  exact ⟨mOkR (by omega), h⟩

theorem ceil_le {w t s : Int} (ht : 0 < t) : -(-w / t) ≤ s ↔ w ≤ s * t := by
  have : -s ≤ -w / t ↔ -s * t ≤ -w := Int.le_ediv_iff_mul_le ht
  rw [Int.neg_mul] at this
  omega

theorem ld_eq {a b w : Int} (h : a < b) : ld a b w = (-(-w / (b - a)) - 1) * a := by unfold ld; rw [up_ceil (by omega)]

theorem ld_near {a b w need : Int} (a1 : 1 ≤ a) (ab : a < b) (w1 : 1 ≤ w) (n1 : 1 ≤ need) (hw : w ≤ ((need - 1) / a + 1) * (b - a)) : 0 ≤ ld a b w ∧ ld a b w ≤ need - 1 := by
  rw [ld_eq ab]
  have q : -(-w / (b - a)) ≤ (need - 1) / a + 1 := (ceil_le (by omega)).mpr hw
  have c := ceil_sp (a := b - a) (h := w) (by omega)
  have q1 : 1 ≤ -(-w / (b - a)) := by
    rcases Int.lt_or_le 0 (-(-w / (b - a))) with z | z
    · omega
    · have := Int.mul_le_mul_of_nonneg_right z (by omega : 0 ≤ b - a)
      omega
  refine ⟨Int.mul_nonneg (by omega) (by omega), ?_⟩
  have := Int.mul_le_mul_of_nonneg_right (show -(-w / (b - a)) - 1 ≤ (need - 1) / a by omega) (by omega : 0 ≤ a)
  have := Int.ediv_mul_le (need - 1) (show a ≠ 0 by omega)
  omega

def hdL (a b : Int) (ks : List (Int × Int)) : Int := ks.foldl (fun m k => max m (ld a b k.1)) 0
theorem hdL_snoc {a b : Int} {ks : List (Int × Int)} {k : Int × Int} : hdL a b (ks ++ [k]) = max (hdL a b ks) (ld a b k.1) := by
  unfold hdL
  rw [List.foldl_append]
  rfl

theorem y_headL (a b : Int) (ks : List (Int × Int)) (a1 : 1 ≤ a) (ab : a < b) (b3 : b ≤ 12) {K : Rv → List Sl → Prop} (h : K (.d (.int (hdL a b ks))) [.dat (.int a), .dat (.int b), .dat (.lst (kl ks))]) : Y G_l_head [.dat (.int a), .dat (.int b), .dat (.lst (kl ks))] K NX := by
  unfold G_l_head B_l_head
  walk_at "ys"
  refine Y_loop (I := fun r ρ => ∃ (pre rest : List (Int × Int)) (s4 : Sl), r = kl rest ∧ ks = pre ++ rest ∧ ρ = [.dat (.int a), .dat (.int b), .dat (.lst (kl ks)), .dat (.int (hdL a b pre)), s4] ∧ canSet s4 = true)
    ⟨[], ks, _, rfl, rfl, rfl, rfl⟩ (fun x r ρ => ?_) (fun ρ => ?_)
  · rintro ⟨pre, rest, s4, er, ek, rfl, c4⟩
    cases rest with
    | nil => cases er
    | cons k rest =>
      cases er
      unfold kd
      walk_at "ys"
      refine ⟨c4, ?_⟩
      refine y_leadL a b _ a1 ab b3 ?_
      walk_at "ys"
      exact ⟨pre ++ [k], rest, _, rfl, by rw [ek]; simp, by rw [hdL_snoc], rfl⟩
  · rintro ⟨pre, rest, s4, er, ek, rfl, c4⟩
    cases rest with
    | cons => cases er
    | nil =>
      rw [List.append_nil] at ek
      subst ek
      walk_at "ys"
      exact h

theorem ld_nn {a b w : Int} (a1 : 1 ≤ a) (ab : a < b) (w1 : 1 ≤ w) : 0 ≤ ld a b w := by
  rw [ld_eq ab]
  have c := ceil_sp (a := b - a) (h := w) (by omega)
  have : 1 ≤ -(-w / (b - a)) := by
    rcases Int.lt_or_le (-(-w / (b - a))) 1 with z | z
    · have := Int.mul_le_mul_of_nonneg_right (show -(-w / (b - a)) ≤ 0 by omega) (by omega : 0 ≤ b - a)
      omega
    · exact z
  exact Int.mul_nonneg (by omega) (by omega)
theorem ld_mono {a b v w : Int} (a1 : 1 ≤ a) (ab : a < b) (h : v ≤ w) : ld a b v ≤ ld a b w := by
  rw [ld_eq ab, ld_eq ab]
  have cv := ceil_sp (a := b - a) (h := v) (by omega)
  have cw := ceil_sp (a := b - a) (h := w) (by omega)
  have : -(-v / (b - a)) ≤ -(-w / (b - a)) := by
    rcases Int.lt_or_le (-(-w / (b - a))) (-(-v / (b - a))) with z | z
    · have := Int.mul_le_mul_of_nonneg_right (show -(-w / (b - a)) ≤ -(-v / (b - a)) - 1 by omega) (by omega : 0 ≤ b - a)
      omega
    · exact z
  exact Int.mul_le_mul_of_nonneg_right (by omega) (by omega)
theorem hdL_ge {a b : Int} : ∀ (ks : List (Int × Int)) (m : Int), m ≤ ks.foldl (fun m k => max m (ld a b k.1)) m ∧ ∀ k ∈ ks, ld a b k.1 ≤ ks.foldl (fun m k => max m (ld a b k.1)) m
  | [], m => ⟨Int.le_refl _, fun k h => by simp at h⟩
  | k :: ks, m => by
    rw [List.foldl_cons]
    obtain ⟨h1, h2⟩ := hdL_ge (a := a) (b := b) ks (max m (ld a b k.1))
    refine ⟨by omega, fun q hq => ?_⟩
    (rcases List.mem_cons.mp hq with e | e)
    · rw [e]; omega
    · exact h2 q e
theorem hdL_mem {a b : Int} : ∀ (ks : List (Int × Int)) (m : Int), ks.foldl (fun m k => max m (ld a b k.1)) m = m ∨ ∃ k ∈ ks, ks.foldl (fun m k => max m (ld a b k.1)) m = ld a b k.1
  | [], m => .inl rfl
  | k :: ks, m => by
    rw [List.foldl_cons]
    rcases hdL_mem (a := a) (b := b) ks (max m (ld a b k.1)) with e | ⟨q, hq, e⟩
    · rw [e]
      rcases Int.le_total m (ld a b k.1) with z | z
      · exact .inr ⟨k, by simp, by omega⟩
      · exact .inl (by omega)
    · exact .inr ⟨q, by simp [hq], e⟩
theorem hdL_pl {a b : Int} {ks : List (Int × Int)} (a1 : 1 ≤ a) (ab : a < b) (hg : Gd 16 120 ks) : hdL a b (pl ks) = hdL a b ks := by
  have hp := pl_gd hg
  obtain ⟨p1, p2⟩ := hdL_ge (a := a) (b := b) (pl ks) 0
  obtain ⟨k1, k2⟩ := hdL_ge (a := a) (b := b) ks 0
  have m1 := hdL_mem (a := a) (b := b) (pl ks) 0
  have m2 := hdL_mem (a := a) (b := b) ks 0
  unfold hdL
  generalize (pl ks).foldl (fun m k => max m (ld a b k.1)) 0 = A at *
  generalize ks.foldl (fun m k => max m (ld a b k.1)) 0 = B at *
  have le1 : A ≤ B := by
    rcases m1 with e | ⟨k, hk, e⟩
    · omega
    · have := k2 k (pl_sub hg.pos hk)
      omega
  have le2 : B ≤ A := by
    rcases m2 with e | ⟨k, hk, e⟩
    · omega
    · obtain ⟨q, hq, q1, _⟩ := pl_top hg.pos (fun k hk => by have := hg k hk; omega) hk
      have := p2 q hq
      have := ld_mono (b := b) a1 ab q1
      omega
  omega
theorem y_lead_of (a b : Int) (ks : List (Int × Int)) (a1 : 1 ≤ a) (ab : a < b) (b3 : b ≤ 12) (hg : Gd 16 120 ks) {K : Rv → List Sl → Prop} {X : XC} (h : K (.d (.int (hdL a b ks))) [.dat (La a b), .dat (Ci ks)]) : Y G_f_lead_of [.dat (La a b), .dat (Ci ks)] K X := by
  have hp := pl_gd hg
  unfold G_f_lead_of B_f_lead_of
  walk_at "ys"
  refine Y_lcGo (f := fun x => match x with | .tup [.int w, .int g] => some (.int (ld a b w)) | _ => none) (ρ0 := [.dat (La a b), .dat (Ci ks), .un, .un]) (P := fun x => ∃ k ∈ pl ks, x = kd k) (fun x acc ⟨k, hk, e⟩ hl => ?_) _ _ (fun x hx => ?_) ?_ ?_
  · subst e
    have := hp k hk
    unfold kd
    walk_at "ys"
    refine y_leadP a b _ a1 ab b3 (by omega) ?_
    walk_at "ys"
  · obtain ⟨k, hk, e⟩ := List.mem_map.mp hx
    exact ⟨k, hk, e.symm⟩
  · have := pl_len ks
    rw [kl_len]
    simp
    omega
  · have e : ∀ ms : List (Int × Int), (kl ms).filterMap (fun x => match x with | .tup [.int w, .int g] => some (.int (ld a b w)) | _ => none) = (ms.map fun k => ld a b k.1).map D.int := by
      intro ms
      induction ms with
      | nil => rfl
      | cons k ms ih =>
        exact congrArg (D.int (ld a b k.1) :: ·) ih
    rw [List.nil_append, e]
    walk_at "ys"
    have nn : ∀ n ∈ (pl ks).map (fun k => ld a b k.1), 0 ≤ n := fun n hn => by
      obtain ⟨q, hq, rfl⟩ := List.mem_map.mp hn
      have := hp q hq
      exact ld_nn a1 ab (by omega)
    refine ⟨_, gmax_ints, ?_⟩
    rw [maxL0 nn, List.foldl_map]
    have : (pl ks).foldl (fun m k => max m (ld a b k.1)) 0 = hdL a b ks := hdL_pl a1 ab hg
    rw [this]
    exact h

theorem y_sound_kinds (x y z a b m p need : Int) (a1 : 1 ≤ a) (ab : a < b) (b3 : b ≤ 12) (m0 : 0 ≤ m) (m1 : m ≤ 12) (p1 : 1 ≤ p) (p2 : p ≤ 16) (n1 : 1 ≤ need) (n2 : need ≤ 120) {K : Rv → List Sl → Prop} (h : ∀ (ks : List (Int × Int)) (x' y' z' : Int), Gd 16 120 ks → (∀ k ∈ ks, sk a b k = true) → ks.length ≤ 12 → K (.c (.lst (kl ks))) [Po x' y' z', .dat (.tup [.int a, .int b]), .dat (.int m), .dat (.int p), .dat (.int need)]) : Y G_l_sound_kinds [Po x y z, .dat (.tup [.int a, .int b]), .dat (.int m), .dat (.int p), .dat (.int need)] K NX := by
  have q0 : 0 ≤ (need - 1) / a := Int.ediv_nonneg (by omega) (by omega)
  have q1 := Int.mul_le_mul_of_nonneg_right (show 1 ≤ (need - 1) / a + 1 by omega) (by omega : 0 ≤ b - a)
  unfold G_l_sound_kinds B_l_sound_kinds
  rw [Y_run0]
  show Y _ [Po x y z, .dat (.tup [.int a, .int b]), .dat (.int m), .dat (.int p), .dat (.int need), .un, .un, .un, .un, .un, .un, .un] _ _
  refine Y_cut (J := fun ρ => ρ = [Po x y z, .dat (.tup [.int a, .int b]), .dat (.int m), .dat (.int p), .dat (.int need), .dat (.int a), .un, .un, .un, .un, .un, .un]) ?_ ?_
  · walk_at "ys"
  rintro _ rfl
  refine Y_cut (J := fun ρ => ρ = [Po x y z, .dat (.tup [.int a, .int b]), .dat (.int m), .dat (.int p), .dat (.int need), .dat (.int a), .dat (.int b), .un, .un, .un, .un, .un]) ?_ ?_
  · walk_at "ys"
  rintro _ rfl
  refine Y_cut (J := fun ρ => ∃ lg : Int, (1 ≤ lg ∧ lg ≤ p ∧ lg ≤ b - 1 ∧ lg ≤ ((need - 1) / a + 1) * (b - a)) ∧ ρ = [Po x y z, .dat (.tup [.int a, .int b]), .dat (.int m), .dat (.int p), .dat (.int need), .dat (.int a), .dat (.int b), .dat (.int lg), .un, .un, .un, .un]) ?_ ?_
  · walk_at "ys"
    refine ⟨dOk (by omega) (by omega), mOkR (by omega), ?_⟩
    generalize ((need - 1) / a + 1) * (b - a) = q at q1
    exact ⟨_, by omega, rfl⟩
  rintro _ ⟨lg, ⟨l1, l2, l3, l4⟩, rfl⟩
  refine Y_cut (J := fun ρ => ρ = [Po x y z, .dat (.tup [.int a, .int b]), .dat (.int m), .dat (.int p), .dat (.int need), .dat (.int a), .dat (.int b), .dat (.int lg), .cel .own (.lst []), .un, .un, .un]) ?_ ?_
  · walk_at "ys"
  rintro _ rfl
  walk_at "ys"
  refine y_take _ _ _ _ (by omega) (by omega) fun n x1 y1 z1 n3 n4 => ?_
  walk_at "ys"
  refine ⟨by omega, ?_⟩
  refine Y_loop (I := fun r ρ => ∃ (i : Nat) (ks : List (Int × Int)) (x y z : Int) (s9 s10 s11 : Sl), r = (rngD 0 n.toNat).drop i ∧ Gd 16 120 ks ∧ (∀ k ∈ ks, sk a b k = true) ∧ ks.length = i ∧ i ≤ n.toNat ∧ canSet s9 = true ∧ canSet s10 = true ∧ canSet s11 = true ∧ ρ = [Po x y z, .dat (.tup [.int a, .int b]), .dat (.int m), .dat (.int p), .dat (.int need), .dat (.int a), .dat (.int b), .dat (.int lg), .cel .own (.lst (kl ks)), s9, s10, s11])
    ⟨0, [], _, _, _, _, _, _, rfl, fun _ h => by simp at h, fun _ h => by simp at h, rfl, Nat.zero_le _, rfl, rfl, rfl, rfl⟩ (fun q r ρ => ?_) (fun ρ => ?_)
  · rintro ⟨i, ks, x, y, z, s9, s10, s11, er, hg, hk, hl, il, c9, c10, c11, rfl⟩
    obtain ⟨hi, rfl, rfl⟩ := rngc_lt er
    refine Y_tgN rfl c9 ?_
    refine Y_cut (J := fun ρ => ∃ (w x y z : Int), 1 ≤ w ∧ w ≤ lg ∧ ρ = [Po x y z, .dat (.tup [.int a, .int b]), .dat (.int m), .dat (.int p), .dat (.int need), .dat (.int a), .dat (.int b), .dat (.int lg), .cel .own (.lst (kl ks)), .dat (.int (0 + (i : Int))), .dat (.int w), s11]) ?_ ?_
    · walk_at "ys"
      refine y_take _ _ _ _ (by omega) (by omega) fun v x1 y1 z1 v1 v2 => ?_
      walk_at "ys"
      exact ⟨c10, 1 + v, _, _, _, by omega, by omega, rfl⟩
    rintro _ ⟨w, x, y, z, w1, w2, rfl⟩
    have near := ld_near a1 ab w1 n1 (by omega)
    refine Y_cut (J := fun ρ => ρ = [Po x y z, .dat (.tup [.int a, .int b]), .dat (.int m), .dat (.int p), .dat (.int need), .dat (.int a), .dat (.int b), .dat (.int lg), .cel .own (.lst (kl ks)), .dat (.int (0 + (i : Int))), .dat (.int w), .dat (.int (ld a b w))]) ?_ ?_
    · walk_at "ys"
      refine y_leadL a b w a1 ab b3 ?_
      walk_at "ys"
      exact c11
    rintro _ rfl
    walk_at "ys"
    refine y_take _ _ _ _ (by omega) (by omega) fun u x1 y1 z1 u1 u2 => ?_
    walk_at "ys"
    rw [kl_len]
    refine ⟨by omega, i + 1, ks ++ [(w, ld a b w + 1 + u)], x1, y1, z1, .dat (.int (0 + (i : Int))), .dat (.int w), .dat (.int (ld a b w)), rfl, hg.snoc w1 (by omega) (by omega) (by omega), fun k hk' => ?_, by simp; omega, hi, rfl, rfl, rfl, ?_⟩
    · rcases List.mem_append.mp hk' with q | q
      · exact hk k q
      · simp at q
        subst q
        unfold sk
        rw [Bool.and_eq_true, decide_eq_true_iff, decide_eq_true_iff]
        simp only
        omega
    · rw [← kl_snoc]
  · rintro ⟨i, ks, x, y, z, s9, s10, s11, er, hg, hk, hl, il, c9, c10, c11, rfl⟩
    have := rngc_ge er
    walk_at "ys"
    exact h ks _ _ _ hg hk (by omega)

theorem upTo_succ (n : Nat) : upTo (n + 1) = upTo n ++ [(n : Int) + 1] := by
  unfold upTo
  rw [List.range_succ, List.map_append]
  rfl

theorem y_least_runL (ks : List (Int × Int)) (w : Int) {K : Rv → List Sl → Prop} (h : K (.d (.int (lr ks w))) [.dat (.lst (kl ks)), .dat (.int w)]) : Y G_l_least_run [.dat (.lst (kl ks)), .dat (.int w)] K NX := by
  unfold G_l_least_run B_l_least_run
  walk_at "ys"
  refine Y_loop (I := fun r ρ => ∃ (rest : List (Int × Int)) (m : Int) (s3 : Sl), r = kl rest ∧ lr ks w = rest.foldl (fun best k => if k.1 ≥ w ∧ (best = 0 ∨ k.2 < best) then k.2 else best) m ∧ canSet s3 = true ∧ ρ = [.dat (.lst (kl ks)), .dat (.int w), .dat (.int m), s3])
    ⟨ks, 0, _, rfl, rfl, rfl, rfl⟩ (fun e r ρ => ?_) (fun ρ => ?_)
  · rintro ⟨rest, m, s3, er, em, c3, rfl⟩
    cases rest with
    | nil => cases er
    | cons k rest =>
      obtain ⟨v, g⟩ := k
      cases er
      rw [List.foldl_cons] at em
      unfold kd
      walk_at "ys"
      refine ⟨c3, ?_⟩
      by_cases c1 : v ≥ w
      · by_cases c2 : m = 0 ∨ g < m
        · rw [if_pos ⟨c1, c2⟩] at em
          rw [if_pos c1]
          rcases Classical.em (m = 0) with c4 | c4
          · rw [if_pos c4]
            exact ⟨rest, g, _, rfl, em, rfl, rfl⟩
          · rw [if_neg c4, if_pos (by omega)]
            exact ⟨rest, g, _, rfl, em, rfl, rfl⟩
        · rw [if_neg fun z => c2 z.2] at em
          rw [if_pos c1, if_neg (by omega), if_neg (by omega)]
          exact ⟨rest, m, _, rfl, em, rfl, rfl⟩
      · rw [if_neg fun z => c1 z.1] at em
        rw [if_neg c1]
        exact ⟨rest, m, _, rfl, em, rfl, rfl⟩
  · rintro ⟨rest, m, s3, er, em, c3, rfl⟩
    cases rest with
    | cons => cases er
    | nil =>
      walk_at "ys"
      rw [em] at h
      exact h
def plI (ks : List (Int × Int)) (i : Nat) : List (Int × Int) := ((upTo i).filter (keepW ks)).map fun w => (w, lr ks w)
theorem plI_succ (ks : List (Int × Int)) (i : Nat) : plI ks (i + 1) = plI ks i ++ (if keepW ks ((i : Int) + 1) = true then [((i : Int) + 1, lr ks ((i : Int) + 1))] else []) := by
  unfold plI
  rw [upTo_succ, List.filter_append, List.map_append]
  congr 1
  rw [List.filter_cons]
  cases keepW ks ((i : Int) + 1) <;> rfl
theorem plI_len (ks : List (Int × Int)) (i : Nat) : (plI ks i).length ≤ i := by
  unfold plI
  rw [List.length_map]
  refine Nat.le_trans (List.length_filter_le _ _) ?_
  simp [upTo]
theorem y_plainL (ks : List (Int × Int)) {K : Rv → List Sl → Prop} (h : K (.c (.lst (kl (pl ks)))) [.dat (.lst (kl ks))]) : Y G_l_plain [.dat (.lst (kl ks))] K NX := by
  unfold G_l_plain B_l_plain
  walk_at "ys"
  refine ⟨by omega, ?_⟩
  refine Y_loop (I := fun r ρ => ∃ (i : Nat) (s2 s3 : Sl), r = (rngD 1 (17 - 1 : Int).toNat).drop i ∧ i ≤ 16 ∧ canSet s2 = true ∧ canSet s3 = true ∧ ρ = [.dat (.lst (kl ks)), .cel .own (.lst (kl (plI ks i))), s2, s3])
    ⟨0, _, _, rfl, by omega, rfl, rfl, rfl⟩ (fun q r ρ => ?_) (fun ρ => ?_)
  · rintro ⟨i, s2, s3, er, il, c2, c3, rfl⟩
    obtain ⟨hi, rfl, rfl⟩ := rngc_lt er
    have hi : i < 16 := hi
    have pn := plI_len ks i
    refine Y_tgN rfl c2 ?_
    walk_at "ys"
    refine y_least_runL ks _ ?_
    walk_at "ys"
    refine ⟨c3, ?_⟩
    have ps := plI_succ ks i
    have eq : 1 + (i : Int) = (i : Int) + 1 := by omega
    rw [eq]
    unfold keepW at ps
    by_cases c1 : 0 < lr ks ((i : Int) + 1)
    · rw [if_pos c1]
      refine y_least_runL ks _ ?_
      walk_at "ys"
      by_cases c4 : lr ks ((i : Int) + 1) = lr ks ((i : Int) + 1 + 1)
      · rw [if_neg (by simpa using c4)]
        rw [decide_eq_true c1, decide_eq_false (by simpa using c4)] at ps
        rw [if_neg (by decide), List.append_nil] at ps
        rw [← ps]
        exact ⟨i + 1, _, _, rfl, by omega, rfl, rfl, rfl⟩
      · rw [if_pos (by simpa using c4)]
        rw [decide_eq_true c1, decide_eq_true c4] at ps
        rw [if_pos (by decide)] at ps
        rw [kl_len]
        refine ⟨by omega, ?_⟩
        rw [kl_snoc, ← ps]
        exact ⟨i + 1, _, _, rfl, by omega, rfl, rfl, rfl⟩
    · rw [if_neg c1]
      rw [decide_eq_false c1] at ps
      rw [Bool.false_and, if_neg (by decide), List.append_nil] at ps
      rw [← ps]
      exact ⟨i + 1, _, _, rfl, by omega, rfl, rfl, rfl⟩
  · rintro ⟨i, s2, s3, er, il, c2, c3, rfl⟩
    have : i = 16 := by
      have h1 := rngc_ge er
      have : (17 - 1 : Int).toNat = 16 := rfl
      omega
    subst this
    walk_at "ys"
    exact h

def flt (c d w g : Int) : Str := if d ≤ w then "long" else if g ≤ ld c d w then "close" else ""
theorem y_faultL (c d w g : Int) (h1 : 1 ≤ c) (h2 : c < d) (h3 : d ≤ 12) {K : Rv → List Sl → Prop} (h : K (.d (.str (flt c d w g))) [.dat (.int c), .dat (.int d), .dat (.tup [.int w, .int g])]) : Y G_l_fault [.dat (.int c), .dat (.int d), .dat (.tup [.int w, .int g])] K NX := by
  unfold G_l_fault B_l_fault
  unfold flt at h
  walk_at "ys"
  split
  · rename_i z
    rw [if_pos z] at h
    exact h
  · rename_i z
    rw [if_neg z] at h
    refine y_leadL c d w h1 h2 h3 ?_
    walk_at "ys"
    split
    · rename_i z
      rw [if_pos z] at h
      exact h
    · rename_i z
      rw [if_neg z] at h
      exact h

theorem y_sameS (n : Nat) (x : Str) {K : Rv → List Sl → Prop} (h : K (.d (.bl true)) [.dat (.str x), .dat (.str x)]) : Y (GR_l_same (n + 1)) [.dat (.str x), .dat (.str x)] K NX := by
  unfold GR_l_same B_l_same
  walk_at "ys"
  exact h

abbrev Ws (bs : List Bool) : D := .str (sg bs)
/-- the breach of signs, the longest spells given: stretch, left, hour -/
def brF (f : Int → Int) : List Bool → Int → Int → Int → Int
  | [], _, _, _ => 0
  | false :: r, s, l, k => brF f r (s + 1) l (k + 1)
  | true :: r, s, l, k => if (if 0 < s then f s else l) = 0 then k + 1 else brF f r 0 ((if 0 < s then f s else l) - 1) (k + 1)
theorem brF_dry {f : Int → Int} : ∀ (n : Nat) (r : List Bool) (s l k : Int), brF f (List.replicate n false ++ r) s l k = brF f r (s + n) l (k + n)
  | 0, r, s, l, k => by simp
  | n + 1, r, s, l, k => by
    rw [List.replicate_succ, List.cons_append]
    show brF f _ (s + 1) l (k + 1) = _
    rw [brF_dry n, show s + 1 + (n : Int) = s + ((n + 1 : Nat) : Int) by omega, show k + 1 + (n : Int) = k + ((n + 1 : Nat) : Int) by omega]
theorem brF_damp {f : Int → Int} : ∀ (m : Nat) (r : List Bool) (l k : Int), 0 ≤ l → brF f (List.replicate m true ++ r) 0 l k = if (m : Int) ≤ l then brF f r 0 (l - m) (k + m) else k + l + 1
  | 0, r, l, k, h => by rw [if_pos (by omega)]; simp
  | m + 1, r, l, k, h => by
    rw [List.replicate_succ, List.cons_append]
    show (if (if (0 : Int) < 0 then f 0 else l) = 0 then k + 1 else brF f (List.replicate m true ++ r) 0 ((if (0 : Int) < 0 then f 0 else l) - 1) (k + 1)) = _
    rw [if_neg (c := (0 : Int) < 0) (by omega)]
    split
    · rename_i c
      rw [if_neg (by omega)]
      omega
    · rename_i c
      rw [brF_damp m r (l - 1) (k + 1) (by omega)]
      by_cases q : (m : Int) ≤ l - 1
      · rw [if_pos q, if_pos (by omega), show l - 1 - (m : Int) = l - ((m + 1 : Nat) : Int) by omega, show k + 1 + (m : Int) = k + ((m + 1 : Nat) : Int) by omega]
      · rw [if_neg q, if_neg (by omega)]
        omega
theorem brF_turn {f : Int → Int} {m : Nat} {r : List Bool} {s l k : Int} (hs : 0 < s) (hm : 1 ≤ m) : brF f (List.replicate m true ++ r) s l k = brF f (List.replicate m true ++ r) 0 (f s) k := by
  obtain ⟨m, rfl⟩ : ∃ q, m = q + 1 := ⟨m - 1, by omega⟩
  rw [List.replicate_succ, List.cons_append]
  show (if (if 0 < s then f s else l) = 0 then k + 1 else brF f _ 0 ((if 0 < s then f s else l) - 1) (k + 1)) = (if (if (0 : Int) < 0 then f 0 else f s) = 0 then k + 1 else brF f _ 0 ((if (0 : Int) < 0 then f 0 else f s) - 1) (k + 1))
  rw [if_pos hs, if_neg (c := (0 : Int) < 0) (by omega)]
theorem y_breach (ks : List (Int × Int)) (bs : List Bool) (hg : ∀ k ∈ ks, 0 ≤ k.1) (hl : bs.length ≤ 1000) {K : Rv → List Sl → Prop} (h : K (.d (.int (brF (wl ks) bs 0 0 0))) [.dat (.lst (kl ks)), .dat (Ws bs)]) : Y G_l_breach [.dat (.lst (kl ks)), .dat (Ws bs)] K NX := by
  unfold G_l_breach B_l_breach
  walk_at "ys"
  refine ⟨by omega, by omega, ?_⟩
  refine Y_loop (I := fun r ρ => ∃ (i : Nat) (s l : Int) (s4 : Sl), r = (rngD 0 (bs.length : Int).toNat).drop i ∧ i ≤ bs.length ∧ brF (wl ks) bs 0 0 0 = brF (wl ks) (bs.drop i) s l i ∧ ρ = [.dat (.lst (kl ks)), .dat (Ws bs), .dat (.int s), .dat (.int l), s4] ∧ canSet s4 = true)
    ⟨0, 0, 0, .un, rfl, Nat.zero_le _, rfl, rfl, rfl⟩ (fun x r ρ => ?_) (fun ρ => ?_)
  · rintro ⟨i, s, l, s4, er, il, eb, rfl, c4⟩
    obtain ⟨hi, rfl, rfl⟩ := rngc_lt er
    rw [List.drop_eq_getElem_cons hi] at eb
    walk_at "ys"
    rw [Int.zero_add, sgx (by omega) (by omega) (by omega)]
    simp only [Int.toNat_natCast]
    cases e : bs[i] with
    | false =>
      rw [e] at eb
      walk_at "ys"
      exact ⟨c4, i + 1, s + 1, l, _, rfl, hi, eb, rfl, rfl⟩
    | true =>
      rw [e] at eb
      walk_at "ys"
      refine ⟨c4, ?_⟩
      have eb : brF (wl ks) bs 0 0 0 = if (if 0 < s then wl ks s else l) = 0 then (i : Int) + 1 else brF (wl ks) (bs.drop (i + 1)) 0 ((if 0 < s then wl ks s else l) - 1) (i + 1) := eb
      split
      · rename_i c
        rw [if_pos c] at eb
        refine y_longestL ks s hg ?_
        walk_at "ys"
        split
        · rename_i c2
          rw [if_pos c2] at eb
          rw [eb] at h
          exact h
        · rename_i c2
          rw [if_neg c2] at eb
          exact ⟨i + 1, _, _, _, rfl, hi, eb, rfl, rfl⟩
      · rename_i c
        rw [if_neg c] at eb
        walk_at "ys"
        split
        · rename_i c2
          rw [if_pos c2] at eb
          rw [eb] at h
          exact h
        · rename_i c2
          rw [if_neg c2] at eb
          exact ⟨i + 1, _, _, _, rfl, hi, eb, rfl, rfl⟩
  · rintro ⟨i, s, l, s4, er, il, eb, rfl, c4⟩
    have hi : i = bs.length := by
      have := rngc_ge er
      omega
    subst hi
    rw [List.drop_length] at eb
    walk_at "ys"
    rw [eb] at h
    exact h

/-- the marks of a row and the signs that are seen -/
def mq (m : Option Bool) (b : Bool) : Bool := decide (m = none ∨ m = some b)
def mtc (ms : List (Option Bool)) (bs : List Bool) : Bool := (ms.zip bs).all fun p => mq p.1 p.2
abbrev Row := Int × Int × List (Option Bool) × Bool
def fits (r : Row) (age d : Int) (bs : List Bool) : Bool := decide (r.1 = 0 ∨ r.1 = age) && (decide (r.2.1 ≤ d) && mtc r.2.2.1 bs)
/-- what the habit with these rows does -/
def ans : List Row → Int → Int → List Bool → Bool
  | [], _, _, _ => true
  | r :: R, age, d, bs => if fits r age d bs = true then r.2.2.2 else ans R age d bs
/-- the signs of N hours -/
def fl (f : Nat → Bool) (N : Nat) : List Bool := (List.range N).map f
theorem fl_len (f : Nat → Bool) (N : Nat) : (fl f N).length = N := by unfold fl; rw [List.length_map, List.length_range]
theorem fl_get {f : Nat → Bool} {N i : Nat} (h : i < (fl f N).length) : (fl f N)[i] = f i := by simp [fl]
theorem fl_congr {f g : Nat → Bool} {N : Nat} (h : ∀ i, i < N → f i = g i) : fl f N = fl g N := List.map_congr_left fun i hi => h i (List.mem_range.mp hi)
theorem fl_drop (f : Nat → Bool) (N t : Nat) : (fl f N).drop t = fl (fun i => f (t + i)) (N - t) :=
  List.ext_getElem (by rw [List.length_drop, fl_len, fl_len]) fun i h1 h2 => by rw [List.getElem_drop, fl_get, fl_get]
theorem fl_take {f : Nat → Bool} {N u : Nat} (h : u ≤ N) : (fl f N).take u = fl f u :=
  List.ext_getElem (by rw [List.length_take, fl_len, fl_len]; omega) fun i h1 h2 => by rw [List.getElem_take, fl_get, fl_get]
/-- a stretch, a spell, a stretch -/
def f1 (P W : Nat) : Nat → Bool := fun i => decide (P ≤ i ∧ i < P + W)
theorem fl_three (P W N : Nat) : fl (f1 P W) N = List.replicate (min P N) false ++ (List.replicate (min W (N - P)) true ++ List.replicate (N - P - W) false) := by
  refine List.ext_getElem (by rw [fl_len, List.length_append, List.length_append, List.length_replicate, List.length_replicate, List.length_replicate]; omega) fun i h1 h2 => ?_
  rw [fl_len] at h1
  rw [fl_get, List.getElem_append]
  unfold f1
  split
  · rename_i c
    rw [List.length_replicate] at c
    rw [List.getElem_replicate]
    (exact decide_eq_false (by omega))
  · rename_i c
    rw [List.length_replicate] at c
    rw [List.getElem_append]
    split
    · rename_i c2
      rw [List.length_replicate, List.length_replicate] at c2
      rw [List.getElem_replicate]
      (exact decide_eq_true (by omega))
    · rename_i c2
      rw [List.length_replicate, List.length_replicate] at c2
      rw [List.getElem_replicate]
      (exact decide_eq_false (by omega))
theorem fl_dots (N : Nat) : fl (fun _ => false) N = List.replicate N false :=
  List.ext_getElem (by rw [fl_len, List.length_replicate]) fun i h1 h2 => by rw [fl_get, List.getElem_replicate]
def dr1 (f : Nat → Bool) (t : Nat) (d : Int) : Int := if f (t - 1) = true then 0 else d + 1
def lay1 (f : Nat → Bool) (R : List Row) (s : Nat) (a b : Int) (c t : Nat) (d : Int) : Bool := decide (0 < d) && (decide (a ≤ (t : Int) - c ∧ (t : Int) - c ≤ b) && ans R ((t : Int) - c) d (fl (fun i => f (t + i)) s))
/-- the play from hour t on, n hours: the coats and the hour in which the work is spoilt, 0 if it isn't -/
def go (f : Nat → Bool) (R : List Row) (s : Nat) (a b : Int) : Nat → Nat → List Nat → Nat → Int → List Nat × Nat
  | 0, _, cs, _, _ => (cs, 0)
  | n + 1, t, cs, c, d => if lay1 f R s a b c t (dr1 f t d) = true then go f R s a b n (t + 1) (cs ++ [t]) t (dr1 f t d) else if b ≤ (t : Int) - c then (cs, t) else go f R s a b n (t + 1) cs c (dr1 f t d)
theorem dr1_same {f g : Nat → Bool} {s t e : Nat} {d : Int} (h : ∀ i, i < e + s → f i = g i) (t1 : 1 ≤ t) (te : t ≤ e) : dr1 g t d = dr1 f t d := by
  unfold dr1
  rw [h (t - 1) (by omega)]
theorem lay1_same {f g : Nat → Bool} {R : List Row} {s t e c : Nat} {a b d : Int} (h : ∀ i, i < e + s → f i = g i) (te : t ≤ e) : lay1 g R s a b c t d = lay1 f R s a b c t d := by
  unfold lay1
  rw [fl_congr (f := fun i => g (t + i)) (g := fun i => f (t + i)) fun i hi => (h (t + i) (by omega)).symm]
theorem go_same {f g : Nat → Bool} {R : List Row} {s : Nat} {a b : Int} {cs' : List Nat} {e : Nat} : ∀ (n t : Nat) (cs : List Nat) (c : Nat) (d : Int), 1 ≤ t → go f R s a b n t cs c d = (cs', e) → e ≠ 0 → (∀ i, i < e + s → f i = g i) → t ≤ e ∧ e < t + n ∧ ∀ m, e < t + m → go g R s a b m t cs c d = (cs', e)
  | 0, t, cs, c, d, t1, h, e0, ag => by
    cases h
    exact absurd rfl e0
  | n + 1, t, cs, c, d, t1, h, e0, ag => by
    rw [go] at h
    by_cases l : lay1 f R s a b c t (dr1 f t d) = true
    · rw [if_pos l] at h
      obtain ⟨h1, h2, h3⟩ := go_same n (t + 1) _ _ _ (by omega) h e0 ag
      refine ⟨by omega, by omega, fun m hm => ?_⟩
      obtain ⟨m, rfl⟩ : ∃ q, m = q + 1 := ⟨m - 1, by omega⟩
      rw [go, dr1_same ag t1 (by omega), lay1_same ag (by omega), if_pos l]
      exact h3 m (by omega)
    · rw [if_neg l] at h
      by_cases k : b ≤ (t : Int) - c
      · rw [if_pos k] at h
        cases h
        refine ⟨Nat.le_refl _, by omega, fun m hm => ?_⟩
        obtain ⟨m, rfl⟩ : ∃ q, m = q + 1 := ⟨m - 1, by omega⟩
        rw [go, dr1_same ag t1 (by omega), lay1_same ag (by omega), if_neg l, if_pos k]
      · rw [if_neg k] at h
        obtain ⟨h1, h2, h3⟩ := go_same n (t + 1) _ _ _ (by omega) h e0 ag
        refine ⟨by omega, by omega, fun m hm => ?_⟩
        obtain ⟨m, rfl⟩ : ∃ q, m = q + 1 := ⟨m - 1, by omega⟩
        rw [go, dr1_same ag t1 (by omega), lay1_same ag (by omega), if_neg l, if_neg k]
        exact h3 m (by omega)
theorem go_fin {f : Nat → Bool} {R : List Row} {s : Nat} {a b : Int} {cs' : List Nat} (b1 : 1 ≤ b) : ∀ (n t : Nat) (cs : List Nat) (c : Nat) (d : Int), 1 ≤ t → c ∈ cs → (t : Int) - 1 - c < b → go f R s a b n t cs c d = (cs', 0) → ∃ c', c' ∈ cs' ∧ (t : Int) + n - 1 - c' < b
  | 0, t, cs, c, d, t1, hc, lt, h => by
    cases h
    exact ⟨c, hc, by omega⟩
  | n + 1, t, cs, c, d, t1, hc, lt, h => by
    rw [go] at h
    by_cases l : lay1 f R s a b c t (dr1 f t d) = true
    · rw [if_pos l] at h
      obtain ⟨c', h1, h2⟩ := go_fin b1 n (t + 1) _ _ _ (by omega) (by simp) (by omega) h
      exact ⟨c', h1, by omega⟩
    · rw [if_neg l] at h
      by_cases k : b ≤ (t : Int) - c
      · rw [if_pos k] at h
        have : t = 0 := congrArg Prod.snd h
        omega
      · rw [if_neg k] at h
        obtain ⟨c', h1, h2⟩ := go_fin b1 n (t + 1) _ _ _ (by omega) hc (by omega) h
        exact ⟨c', h1, by omega⟩
theorem go_coat {f : Nat → Bool} {R : List Row} {s : Nat} {a b : Int} {cs' : List Nat} {e x : Nat} (hx : x ∈ cs') : ∀ (n t : Nat) (cs : List Nat) (c : Nat) (d : Int), 1 ≤ t → x ∉ cs → go f R s a b n t cs c d = (cs', e) → t ≤ x ∧ x < t + n ∧ ∃ (csx : List Nat) (dx : Int), ∀ g : Nat → Bool, (∀ i, i < x + s → f i = g i) → ∀ m, x < t + m → go g R s a b m t cs c d = go g R s a b (m - (x + 1 - t)) (x + 1) csx x dx
  | 0, t, cs, c, d, t1, nx, h => by
    cases h
    exact absurd hx nx
  | n + 1, t, cs, c, d, t1, nx, h => by
    rw [go] at h
    by_cases l : lay1 f R s a b c t (dr1 f t d) = true
    · rw [if_pos l] at h
      by_cases q : x = t
      · subst q
        refine ⟨Nat.le_refl _, by omega, cs ++ [x], dr1 f x d, fun g ag m hm => ?_⟩
        obtain ⟨m, rfl⟩ : ∃ q, m = q + 1 := ⟨m - 1, by omega⟩
        rw [go, dr1_same ag t1 (Nat.le_refl _), lay1_same ag (Nat.le_refl _), if_pos l]
        rw [show m + 1 - (x + 1 - x) = m by omega]
      · obtain ⟨h1, h2, csx, dx, h3⟩ := go_coat hx n (t + 1) _ _ _ (by omega) (fun z => by
          rcases List.mem_append.mp z with z | z
          · exact nx z
          · exact q (by simpa using z)) h
        refine ⟨by omega, by omega, csx, dx, fun g ag m hm => ?_⟩
        obtain ⟨m, rfl⟩ : ∃ q, m = q + 1 := ⟨m - 1, by omega⟩
        rw [go, dr1_same ag t1 (by omega), lay1_same ag (by omega), if_pos l, h3 g ag m (by omega)]
        rw [show m - (x + 1 - (t + 1)) = m + 1 - (x + 1 - t) by omega]
    · rw [if_neg l] at h
      by_cases k : b ≤ (t : Int) - c
      · rw [if_pos k] at h
        have : cs = cs' := congrArg Prod.fst h
        rw [← this] at hx
        exact absurd hx nx
      · rw [if_neg k] at h
        obtain ⟨h1, h2, csx, dx, h3⟩ := go_coat hx n (t + 1) _ _ _ (by omega) nx h
        refine ⟨by omega, by omega, csx, dx, fun g ag m hm => ?_⟩
        obtain ⟨m, rfl⟩ : ∃ q, m = q + 1 := ⟨m - 1, by omega⟩
        rw [go, dr1_same ag t1 (by omega), lay1_same ag (by omega), if_neg l, if_neg k, h3 g ag m (by omega)]
        rw [show m - (x + 1 - (t + 1)) = m + 1 - (x + 1 - t) by omega]
/-- no way leads through the spell -/
theorem go_block {f : Nat → Bool} {R : List Row} {s : Nat} {a b : Int} {m x w : Int} (a1 : 1 ≤ a) (ab : a < b) (hw : m * (b - a) ≤ w - 1) (damp : ∀ i : Nat, x + m * a ≤ (i : Int) + 1 → (i : Int) + 1 ≤ x + m * a + w - 1 → f i = true) : ∀ (n t : Nat) (cs : List Nat) (c : Nat) (d : Int) (j : Int), 1 ≤ t → x + j * a ≤ c → (c : Int) ≤ x + j * b → j ≤ m - 1 → (t : Int) ≤ c + b → x + m * a + w - 1 < (t : Int) + n → ∃ (cs' : List Nat) (e : Nat), go f R s a b n t cs c d = (cs', e) ∧ e ≠ 0 ∧ (e : Int) ≤ x + m * a + w - 1
  | n, t, cs, c, d, j, t1, ja, jb, jm, tc, en => by
    have h1 : (j + 1) * b ≤ m * b := Int.mul_le_mul_of_nonneg_right (by omega) (by omega)
    rw [Int.add_mul, Int.one_mul] at h1
    have h2 : m * (b - a) = m * b - m * a := Int.mul_sub _ _ _
    cases n with
    | zero => omega
    | succ n =>
      rw [go]
      by_cases l : lay1 f R s a b c t (dr1 f t d) = true
      · rw [if_pos l]
        unfold lay1 at l
        rw [Bool.and_eq_true, Bool.and_eq_true, decide_eq_true_iff, decide_eq_true_iff] at l
        obtain ⟨l1, ⟨l2, l3⟩, _⟩ := l
        have nd : f (t - 1) ≠ true := fun z => by
          unfold dr1 at l1
          rw [if_pos z] at l1
          omega
        have lt : (t : Int) < x + m * a := by
          rcases Int.lt_or_le (t : Int) (x + m * a) with q | q
          · exact q
          · exact absurd (damp (t - 1) (by omega) (by omega)) nd
        have h3 : (j + 1) * a = j * a + a := by rw [Int.add_mul, Int.one_mul]
        have h4 : (j + 1) * b = j * b + b := by rw [Int.add_mul, Int.one_mul]
        have jm' : j + 1 ≤ m - 1 := by
          rcases Int.lt_or_le (m - 1) (j + 1) with q | q
          · have : m * a ≤ (j + 1) * a := Int.mul_le_mul_of_nonneg_right (by omega) (by omega)
            omega
          · exact q
        exact go_block a1 ab hw damp n (t + 1) _ _ _ (j + 1) (by omega) (by omega) (by omega) jm' (by omega) (by omega)
      · rw [if_neg l]
        by_cases k : b ≤ (t : Int) - c
        · rw [if_pos k]
          exact ⟨cs, t, rfl, by omega, by omega⟩
        · rw [if_neg k]
          exact go_block a1 ab hw damp n (t + 1) _ _ _ j (by omega) ja jb jm (by omega) (by omega)

theorem br_text {F : Int → Int} {P W N : Nat} (hP : 1 ≤ P) (hW : (W : Int) ≤ F P) : brF F (fl (f1 P W) N) 0 0 0 = 0 := by
  rw [fl_three, brF_dry]
  have tail : ∀ (n : Nat) (s l k : Int), brF F (List.replicate n false) s l k = 0 := fun n s l k => by
    have := brF_dry (f := F) n [] s l k
    rw [List.append_nil] at this
    rw [this]
    rfl
  by_cases c : min W (N - P) = 0
  · rw [c, List.replicate_zero, List.nil_append]
    exact tail _ _ _ _
  · rw [show min P N = P by omega, brF_turn (by omega) (by omega)]
    rw [show (0 : Int) + (P : Int) = P by omega, brF_damp _ _ _ _ (by omega), if_pos (by omega)]
    exact tail _ _ _ _
theorem br_dots {F : Int → Int} {N : Nat} : brF F (fl (fun _ => false) N) 0 0 0 = 0 := by
  rw [fl_dots]
  have := brF_dry (f := F) N [] 0 0 0
  rw [List.append_nil] at this
  rw [this]
  rfl
theorem tr_none {R : List Row} {s : Nat} {a b g : Int} {q : List Nat} {e : Nat} (b1 : 1 ≤ b) (g1 : 1 ≤ g) (h : go (fun _ => false) R s a b (g + b - 1).toNat 2 [1] 1 1 = (q, e)) (nl : ∀ c ∈ q, (c : Int) < g) : 2 ≤ e ∧ (e : Int) ≤ g + b ∧ ∀ m, e < 2 + m → go (fun _ => false) R s a b m 2 [1] 1 1 = (q, e) := by
  by_cases e0 : e = 0
  · subst e0
    obtain ⟨c', h1, h2⟩ := go_fin b1 _ 2 [1] 1 1 (by omega) (by simp) (by omega) h
    have := nl c' h1
    omega
  · obtain ⟨h1, h2, h3⟩ := go_same _ 2 [1] 1 1 (by omega) h e0 (fun _ _ => rfl)
    exact ⟨h1, by omega, h3⟩
theorem tr_late {R : List Row} {s : Nat} {a b g w : Int} {q : List Nat} {e x : Nat} (a1 : 1 ≤ a) (ab : a < b) (w1 : 1 ≤ w) (g2 : 2 ≤ g) (sl : (s : Int) < ld a b w) (h : go (fun _ => false) R s a b (g + b - 1).toNat 2 [1] 1 1 = (q, e)) (hx : x ∈ q) (gx : g ≤ (x : Int)) : (x : Int) ≤ g + b ∧ ∃ (cs : List Nat) (e' : Nat), 2 ≤ e' ∧ (e' : Int) ≤ x + ld a b w + w - 1 ∧ ∀ m, e' < 2 + m → go (f1 ((x : Int) + ld a b w - 1).toNat w.toNat) R s a b m 2 [1] 1 1 = (cs, e') := by
  obtain ⟨x2, xn, csx, dx, h3⟩ := go_coat hx _ 2 [1] 1 1 (by omega) (by simp; omega) h
  have c := ceil_sp (a := b - a) (h := w) (by omega)
  have el := ld_eq (w := w) ab
  have h3 := h3 (f1 ((x : Int) + ld a b w - 1).toNat w.toNat) (fun i hi => by unfold f1; exact (decide_eq_false (by omega)).symm) ((x : Int) + ld a b w + w - 2).toNat (by omega)
  generalize ld a b w = L at *
  generalize -(-w / (b - a)) = k at *
  have k1 : 1 ≤ k - 1 := by
    rcases Int.lt_or_le (k - 1) 1 with z | z
    · have := Int.mul_le_mul_of_nonneg_right (show k - 1 ≤ 0 by omega) (show 0 ≤ a by omega)
      omega
    · exact z
  obtain ⟨cs', e', h4, e0, h5⟩ := go_block (f := f1 ((x : Int) + L - 1).toNat w.toNat) (R := R) (s := s) (x := x) a1 ab (show (k - 1) * (b - a) ≤ w - 1 by omega) (fun i i1 i2 => by unfold f1; exact decide_eq_true (by omega)) (((x : Int) + L + w - 2).toNat - (x + 1 - 2)) (x + 1) csx x dx 0 (by omega) (by omega) (by omega) (by omega) (by omega) (by omega)
  rw [h4] at h3
  obtain ⟨h6, h7, h8⟩ := go_same _ 2 [1] 1 1 (by omega) h3 e0 (fun _ _ => rfl)
  exact ⟨by omega, cs', e', h6, by omega, h8⟩

theorem gAll_b (xs : List Bool) : gAll [.lst (xs.map D.bl)] = some (.bl (xs.all id)) := by
  unfold gAll lbools
  simp only [D.litems, Option.bind_some, D.bools_map, Option.map_some]

theorem cut_from {α : Type} (xs : List α) {n : Int} (h0 : 0 ≤ n) : cut xs (some n) none = xs.drop n.toNat := by
  unfold cut
  show (xs.drop (if n < 0 then _ else min n.toNat xs.length)).take (xs.length - (if n < 0 then _ else min n.toNat xs.length)) = _
  rw [if_neg (by omega)]
  rcases Nat.lt_or_ge n.toNat xs.length with q | q
  · rw [Nat.min_eq_left (by omega)]
    (exact List.take_of_length_le (by rw [List.length_drop]; omega))
  · rw [Nat.min_eq_right q, List.drop_length, List.drop_eq_nil_of_le q, List.take_nil]

theorem cut_to {α : Type} (xs : List α) {n : Int} (h0 : 0 ≤ n) : cut xs none (some n) = xs.take n.toNat := by
  unfold cut
  show (xs.drop 0).take ((if n < 0 then _ else min n.toNat xs.length) - 0) = _
  rw [if_neg (by omega), List.drop_zero, Nat.sub_zero]
  rcases Nat.lt_or_ge n.toNat xs.length with q | q
  · rw [Nat.min_eq_left (by omega)]
  · rw [Nat.min_eq_right q, List.take_length, List.take_of_length_le q]

theorem ix_neg1 {α : Type} {l : List α} {a : α} : atI (l ++ [a]) (-1) = some a := by
  unfold atI ixN
  rw [if_neg (by omega), if_pos (by rw [List.length_append, List.length_singleton]; omega)]
  have e : ((-1 : Int) + ((l ++ [a]).length : Nat)).toNat = l.length := by rw [List.length_append, List.length_singleton]; omega
  rw [e]
  simp
theorem last_at {row : List Int} (h : row ≠ []) : atI (row.map D.int) (-1) = some (.int (row.getLast?.getD 0)) := by
  rcases List.eq_nil_or_concat row with e | ⟨init, n, e⟩
  · exact absurd e h
  · rw [List.concat_eq_append] at e
    subst e
    rw [List.map_append, List.map_cons, List.map_nil, ix_neg1, List.getLast?_concat]
    rfl

def mcd : Option Bool → Nat | none => 63 | some b => if b = true then 35 else 46
def mt (ms : List (Option Bool)) : Str := ⟨(ms.map mcd).toArray⟩
theorem mt_len (ms : List (Option Bool)) : (mt ms).length = ms.length := by
  show (List.toArray _).size = _
  (rw [List.size_toArray, List.length_map])
theorem mt_cps (ms : List (Option Bool)) : (mt ms).cps.toList = ms.map mcd := by simp [mt]
theorem mt_sg (b : Bool) : mt [some b] = sg [b] := rfl
theorem mt_q : ((("?" : String) : Str)) = mt [none] := by decide +kernel
theorem mcd_inj {a b : Option Bool} (h : mcd a = mcd b) : a = b := by
  rcases a with _ | (_ | _) <;> rcases b with _ | (_ | _) <;> first | rfl | (exact absurd h (by decide))
theorem mt1 {m n : Option Bool} : (mt [m] = mt [n]) = (m = n) := propext ⟨fun h => mcd_inj (by
  have := congrArg (fun s : Str => s.cps.toList) h
  simpa [mt] using this), fun e => by rw [e]⟩
theorem mt_chars (ms : List (Option Bool)) : chars (mt ms) = ms.map fun m => .str (mt [m]) := by
  unfold chars
  rw [mt_cps]
  simp [mt]
theorem sg_chars (bs : List Bool) : chars (sg bs) = bs.map fun b => .str (sg [b]) := Option.some.inj (sg_items bs)
theorem mt_ix {ms : List (Option Bool)} {i : Nat} (h : i < ms.length) (hl : ms.length ≤ 16777216) : dIx (.str (mt ms)) (.int (i : Int)) = some (.str (mt [ms[i]])) := by
  show (if (mt ms).length ≤ 16777216 then (atI (mt ms).cps.toList (i : Int)).map fun c => D.str ⟨#[c]⟩ else none) = _
  rw [if_pos (by rw [mt_len]; exact hl), mt_cps, at_lt i (by rw [List.length_map]; exact h)]
  simp [h, mt]
theorem mtx {ms : List (Option Bool)} {i : Nat} (h : i < ms.length) (hl : ms.length ≤ 16777216) : (if (mt ms).length ≤ 16777216 then Option.map (fun c => D.str { cps := #[c] }) (atI (mt ms).cps.toList (i : Int)) else none) = some (.str (mt [ms[i]])) := mt_ix h hl
theorem mt_join (xs : List (List (Option Bool))) : Txt.join (sg []) (xs.map mt) = mt xs.flatten := by
  have app : ∀ a b, mt a ++ mt b = mt (a ++ b) := fun a b => by
    show (⟨_ ++ _⟩ : Str) = ⟨_⟩
    simp [mt]
  show Builtin.Str.glued _ _ = _
  rw [PySem.StrLaws.glued_eq_join]
  have e0 : sg [] = mt [] := rfl
  induction xs with
  | nil => rfl
  | cons x xs ih =>
    cases xs with
    | nil => simp [Str.join]
    | cons y ys =>
      rw [List.map_cons, List.map_cons, Str.join, ← List.map_cons, ih]
      · rw [e0, app, app]
        simp
      · intro h; cases h
theorem in_mk (m : Option Bool) (b : Bool) : dIn (.str (mt [m])) (.tup [.str "?", .str (sg [b])]) = some (.bl (mq m b)) := by
  rw [mt_q, ← mt_sg]
  show some (D.bl ([mt [none], mt [some b]].contains (mt [m]))) = _
  congr 2
  unfold mq
  rw [List.contains_eq_mem]
  congr 1
  rw [List.mem_cons, List.mem_cons, mt1, mt1]
  simp
theorem in_three (m : Option Bool) : dIn (.str (mt [m])) (.tup [.str (sg [false]), .str (sg [true]), .str "?"]) = some (.bl true) := by
  rw [mt_q, ← mt_sg, ← mt_sg]
  show some (D.bl ([mt [some false], mt [some true], mt [none]].contains (mt [m]))) = _
  congr 2
  rw [List.contains_eq_mem]
  refine decide_eq_true ?_
  rw [List.mem_cons, List.mem_cons, List.mem_cons, mt1, mt1, mt1]
  rcases m with _ | (_ | _) <;> simp
theorem in_2 {x y z : Int} : dIn (.int x) (.tup [.int y, .int z]) = some (.bl (decide (x = y ∨ x = z))) := by
  show some (D.bl ([y, z].contains x)) = _
  congr 2
  rw [List.contains_eq_mem]
  congr 1
  rw [List.mem_cons, List.mem_cons]
  simp
def mqF (x : D) : Option D := match x with | .tup [.str u, .str v] => dIn (.str u) (.tup [.str "?", .str v]) | _ => none
theorem zip_mk (ms : List (Option Bool)) (bs : List Bool) : zipD (chars (mt ms)) (chars (sg bs)) = (ms.zip bs).map fun p => .tup [.str (mt [p.1]), .str (sg [p.2])] := by
  unfold zipD
  rw [mt_chars, sg_chars, List.zip_map, List.map_map]
  rfl
theorem mqF_fm (zs : List (Option Bool × Bool)) : (zs.map fun p => .tup [.str (mt [p.1]), .str (sg [p.2])]).filterMap mqF = (zs.map fun p => mq p.1 p.2).map D.bl := by
  induction zs with
  | nil => rfl
  | cons z zs ih =>
    rw [List.map_cons, List.filterMap_cons, ih, show mqF (.tup [.str (mt [z.1]), .str (sg [z.2])]) = some (.bl (mq z.1 z.2)) from in_mk _ _]
    rfl
theorem y_matches (ms : List (Option Bool)) (bs : List Bool) (hl : ms.length ≤ 1000) {K : Rv → List Sl → Prop} {X : XC} (h : K (.d (.bl (mtc ms bs))) [.dat (.str (mt ms)), .dat (Ws bs)]) : Y G_f_matches [.dat (.str (mt ms)), .dat (Ws bs)] K X := by
  unfold G_f_matches B_f_matches
  walk_at "ys"
  rw [zip_mk]
  refine Y_lcGo (f := mqF) (ρ0 := [.dat (.str (mt ms)), .dat (Ws bs), .un, .un]) (P := fun x => ∃ (m : Option Bool) (b : Bool), x = .tup [.str (mt [m]), .str (sg [b])]) (fun x acc ⟨m, b, e⟩ hl => ?_) _ _ (fun x hx => ?_) ?_ ?_
  · subst e
    walk_at "ys"
    rw [show mqF (.tup [.str (mt [m]), .str (sg [b])]) = some (.bl (mq m b)) from in_mk _ _]
    exact ⟨_, in_mk m b, rfl⟩
  · obtain ⟨p, _, e⟩ := List.mem_map.mp hx
    exact ⟨p.1, p.2, e.symm⟩
  · rw [List.length_map, List.length_zip]
    show 0 + _ ≤ _
    omega
  · rw [List.nil_append, mqF_fm]
    walk_at "ys"
    rw [gAll_b]
    unfold mtc at h
    rw [show ((ms.zip bs).map fun p => mq p.1 p.2).all id = (ms.zip bs).all fun p => mq p.1 p.2 by rw [List.all_map]; rfl]
    exact ⟨_, rfl, h⟩
def rd (r : Row) : D := .tup [.int r.1, .int r.2.1, .str (mt r.2.2.1), .bl r.2.2.2]
abbrev Ha (s : Nat) (R : List Row) : D := .obj .Habit [.int s, .tup (R.map rd)]
theorem y_hab (s : Nat) (R : List Row) (age d : Int) (bs : List Bool) (hR : ∀ r ∈ R, r.2.2.1.length ≤ 1000) {K : Rv → List Sl → Prop} {X : XC} (h : K (.d (.bl (ans R age d bs))) [.dat (Ha s R), .dat (.int age), .dat (.int d), .dat (Ws bs)]) : Y G_Habit_call [.dat (Ha s R), .dat (.int age), .dat (.int d), .dat (Ws bs)] K X := by
  unfold G_Habit_call B_Habit_call
  walk_at "ys"
  refine Y_loop (I := fun r ρ => ∃ (rest : List Row) (s4 s5 s6 s7 : Sl), r = rest.map rd ∧ (∀ r ∈ rest, r.2.2.1.length ≤ 1000) ∧ ans R age d bs = ans rest age d bs ∧ canSet s4 = true ∧ canSet s5 = true ∧ canSet s6 = true ∧ canSet s7 = true ∧ ρ = [.dat (Ha s R), .dat (.int age), .dat (.int d), .dat (Ws bs), s4, s5, s6, s7])
    ⟨R, .un, .un, .un, .un, rfl, hR, rfl, rfl, rfl, rfl, rfl, rfl⟩ (fun x r ρ => ?_) (fun ρ => ?_)
  · rintro ⟨rest, s4, s5, s6, s7, er, hr, ea, c4, c5, c6, c7, rfl⟩
    cases rest with
    | nil => cases er
    | cons r rest =>
      obtain ⟨ra, rb, ms, lay⟩ := r
      cases er
      have hm : ms.length ≤ 1000 := hr _ List.mem_cons_self
      have hr' : ∀ r ∈ rest, r.2.2.1.length ≤ 1000 := fun r hq => hr r (List.mem_cons_of_mem _ hq)
      have ea : ans R age d bs = if (decide (ra = 0 ∨ ra = age) && (decide (rb ≤ d) && mtc ms bs)) = true then lay else ans rest age d bs := ea
      show Y (asgT _ (.tup [.int ra, .int rb, .str (mt ms), .bl lay])) _ _ _
      walk_at "ys"
      refine ⟨c4, c5, c6, c7, ?_⟩
      rw [in_2]
      refine ⟨_, rfl, ?_⟩
      cases e1 : decide (ra = 0 ∨ ra = age) with
      | false =>
        rw [e1, Bool.false_and, if_neg (by decide)] at ea
        walk_at "ys"
        exact ⟨rest, _, _, _, _, rfl, hr', ea, rfl, rfl, rfl, rfl, rfl⟩
      | true =>
        rw [e1, Bool.true_and] at ea
        walk_at "ys"
        split
        · rename_i q2
          rw [decide_eq_true q2, Bool.true_and] at ea
          refine y_matches ms bs hm ?_
          cases e3 : mtc ms bs with
          | true =>
            rw [e3, if_pos rfl] at ea
            walk_at "ys"
            rw [← ea]
            exact h
          | false =>
            rw [e3, if_neg (by decide)] at ea
            walk_at "ys"
            exact ⟨rest, _, _, _, _, rfl, hr', ea, rfl, rfl, rfl, rfl, rfl⟩
        · rename_i q2
          rw [decide_eq_false q2, Bool.false_and, if_neg (by decide)] at ea
          exact ⟨rest, _, _, _, _, rfl, hr', ea, rfl, rfl, rfl, rfl, rfl⟩
  · rintro ⟨rest, s4, s5, s6, s7, er, hr, ea, c4, c5, c6, c7, rfl⟩
    cases rest with
    | cons => cases er
    | nil =>
      walk_at "ys"
      rw [ea] at h
      exact h

theorem y_contains (a b x : Int) {K : Rv → List Sl → Prop} {X : XC} (h : K (.d (.bl (decide (a ≤ x ∧ x ≤ b)))) [.dat (La a b), .dat (.int x)]) : Y G_Lacquer_contains [.dat (La a b), .dat (.int x)] K X := by
  unfold G_Lacquer_contains B_Lacquer_contains
  walk_at "ys"
  split
  · rename_i c
    rw [show decide (x ≤ b) = decide (a ≤ x ∧ x ≤ b) by simp [c]]
    exact h
  · rename_i c
    rw [decide_eq_false (fun z => c z.1)] at h
    exact h
theorem y_lays (s : Nat) (R : List Row) (a b age d : Int) (f : Nat → Bool) (N t : Nat) (hR : ∀ r ∈ R, r.2.2.1.length ≤ 1000) (ht : t + s ≤ N) (hN : N ≤ 1000) {K : Rv → List Sl → Prop} {X : XC} (h : K (.d (.bl (decide (0 < d) && (decide (a ≤ age ∧ age ≤ b) && ans R age d (fl (fun i => f (t + i)) s))))) [.dat (Ha s R), .dat (La a b), .dat (.int age), .dat (.int d), .dat (Ws (fl (fun i => f (t + i)) (N - t)))]) : Y G_f_lays [.dat (Ha s R), .dat (La a b), .dat (.int age), .dat (.int d), .dat (Ws (fl (fun i => f (t + i)) (N - t)))] K X := by
  unfold G_f_lays B_f_lays
  walk_at "ys"
  split
  · rename_i q0
    rw [decide_eq_true q0, Bool.true_and] at h
    refine y_contains a b age ?_
    cases e1 : decide (a ≤ age ∧ age ≤ b) with
    | false =>
      rw [e1, Bool.false_and] at h
      walk_at "ys"
      exact h
    | true =>
      rw [e1, Bool.true_and] at h
      walk_at "ys"
      rw [sg_cut, cut_to _ (by omega), Int.toNat_natCast, fl_take (by omega)]
      refine ⟨by rw [fl_len]; omega, ?_⟩
      refine y_hab s R age d _ hR ?_
      walk_at "ys"
      exact h
  · rename_i q0
    rw [decide_eq_false q0] at h
    exact h
def cl (cs : List Nat) : List D := cs.map fun (c : Nat) => .int (c : Int)
theorem cl_last {cs : List Nat} {c : Nat} (h : cs.getLast? = some c) : atI (cl cs) (-1) = some (.int (c : Int)) := by
  have hn : cs.map (fun (c : Nat) => (c : Int)) ≠ [] := fun z => by
    have : cs = [] := List.map_eq_nil_iff.mp z
    rw [this] at h
    cases h
  have e : cl cs = (cs.map fun (c : Nat) => (c : Int)).map D.int := by
    unfold cl
    rw [List.map_map]
    rfl
  rw [e]
  refine (last_at hn).trans ?_
  rw [List.getLast?_map, h]
  rfl
theorem cl_len (cs : List Nat) : (cl cs).length = cs.length := List.length_map _
theorem cl_snoc (cs : List Nat) (c : Nat) : cl cs ++ [.int (c : Int)] = cl (cs ++ [c]) := by simp [cl]
theorem y_played (s : Nat) (R : List Row) (a b : Int) (f : Nat → Bool) (N : Nat) (hR : ∀ r ∈ R, r.2.2.1.length ≤ 1000) (hN : N ≤ 1000) (hs : s ≤ N) {K : Rv → List Sl → Prop} {X : XC} (h : ∀ (cs : List Nat) (e : Nat), go f R s a b (N - s - 1) 2 [1] 1 1 = (cs, e) → cs.length ≤ 1001 → K (.d (.tup [.lst (cl cs), if e = 0 then .non else .int e])) [.dat (Ha s R), .dat (La a b), .dat (.int b), .dat (Ws (fl f N))]) : Y G_f_played [.dat (Ha s R), .dat (La a b), .dat (.int b), .dat (Ws (fl f N))] K X := by
  unfold G_f_played B_f_played
  rw [Y_run0]
  show Y _ [.dat (Ha s R), .dat (La a b), .dat (.int b), .dat (Ws (fl f N)), .un, .un, .un, .un] _ _
  refine Y_cut (J := fun ρ => ρ = [.dat (Ha s R), .dat (La a b), .dat (.int b), .dat (Ws (fl f N)), .cel .own (.lst (cl [1])), .un, .un, .un]) ?_ ?_
  · walk_at "ys"
    rfl
  rintro _ rfl
  refine Y_cut (J := fun ρ => ρ = [.dat (Ha s R), .dat (La a b), .dat (.int b), .dat (Ws (fl f N)), .cel .own (.lst (cl [1])), .dat (.int 1), .un, .un]) ?_ ?_
  · walk_at "ys"
  rintro _ rfl
  walk_at "ys"
  rw [fl_len]
  refine ⟨by omega, by omega, ?_⟩
  rw [show ((N : Int) - (s : Int) + 1 - 2).toNat = N - s - 1 by omega]
  refine Y_loop (I := fun r ρ => ∃ (i : Nat) (cs : List Nat) (c : Nat) (d : Int) (s6 s7 : Sl), r = (rngD 2 (N - s - 1)).drop i ∧ i ≤ N - s - 1 ∧ cs.getLast? = some c ∧ cs.length ≤ i + 1 ∧ go f R s a b (N - s - 1) 2 [1] 1 1 = go f R s a b (N - s - 1 - i) (2 + i) cs c d ∧ canSet s6 = true ∧ canSet s7 = true ∧ ρ = [.dat (Ha s R), .dat (La a b), .dat (.int b), .dat (Ws (fl f N)), .cel .own (.lst (cl cs)), .dat (.int d), s6, s7])
    ⟨0, [1], 1, 1, .un, .un, rfl, Nat.zero_le _, rfl, by simp, rfl, rfl, rfl, rfl⟩ (fun x r ρ => ?_) (fun ρ => ?_)
  · rintro ⟨i, cs, c, d, s6, s7, er, il, hl, lc, eg, c6, c7, rfl⟩
    obtain ⟨hi, rfl, rfl⟩ := rngc_lt er
    rw [show N - s - 1 - i = (N - s - 1 - (i + 1)) + 1 by omega, go] at eg
    refine Y_tgN rfl c6 ?_
    refine Y_cut (J := fun ρ => ρ = [.dat (Ha s R), .dat (La a b), .dat (.int b), .dat (Ws (fl f N)), .cel .own (.lst (cl cs)), .dat (.int (dr1 f (2 + i) d)), .dat (.int (2 + (i : Int))), s7]) ?_ ?_
    · walk_at "ys"
      rw [sgx (by omega) (by rw [fl_len]; omega) (by rw [fl_len]; omega), fl_get, show (2 + (i : Int) - 1).toNat = 2 + i - 1 by omega]
      unfold dr1
      cases f (2 + i - 1) <;> walk_at "ys"
    rintro _ rfl
    generalize ed : dr1 f (2 + i) d = d' at *
    refine Y_cut (J := fun ρ => ρ = [.dat (Ha s R), .dat (La a b), .dat (.int b), .dat (Ws (fl f N)), .cel .own (.lst (cl cs)), .dat (.int d'), .dat (.int (2 + (i : Int))), .dat (.int (2 + (i : Int) - c))]) ?_ ?_
    · walk_at "ys"
      rw [cl_last hl]
      exact ⟨_, rfl, rfl, _, rfl, c7, rfl⟩
    rintro _ rfl
    have el : lay1 f R s a b c (2 + i) d' = (decide (0 < d') && (decide (a ≤ 2 + (i : Int) - c ∧ 2 + (i : Int) - c ≤ b) && ans R (2 + (i : Int) - c) d' (fl (fun k => f (2 + i + k)) s))) := by
      unfold lay1
      rw [show ((2 + i : Nat) : Int) = 2 + (i : Int) by omega]
    rw [show ((2 + i : Nat) : Int) - c = 2 + (i : Int) - c by omega] at eg
    walk_at "ys"
    rw [sg_cut, cut_from _ (by omega), show (2 + (i : Int)).toNat = 2 + i by omega, fl_drop]
    refine ⟨by rw [fl_len]; omega, ?_⟩
    refine y_lays s R a b _ d' f N (2 + i) hR (by omega) hN ?_
    rw [← el]
    cases e1 : lay1 f R s a b c (2 + i) d' with
    | true =>
      rw [e1, if_pos rfl] at eg
      walk_at "ys"
      rw [cl_len]
      refine ⟨by omega, i + 1, cs ++ [2 + i], 2 + i, d', .dat (.int (2 + (i : Int))), .dat (.int (2 + (i : Int) - c)), rfl, by omega, by simp, by simp; omega, eg, rfl, rfl, ?_⟩
      rw [← cl_snoc]
      rfl
    | false =>
      rw [e1, if_neg (by decide)] at eg
      walk_at "ys"
      split
      · rename_i q
        rw [if_pos q] at eg
        have := h _ _ eg (by omega)
        rw [if_neg (by omega)] at this
        exact this
      · rename_i q
        rw [if_neg q] at eg
        exact ⟨i + 1, cs, c, d', _, _, rfl, by omega, hl, by omega, eg, rfl, rfl, rfl⟩
  · rintro ⟨i, cs, c, d, s6, s7, er, il, hl, lc, eg, c6, c7, rfl⟩
    have : i = N - s - 1 := by
      have := rngc_ge er
      omega
    subst this
    rw [Nat.sub_self, go] at eg
    walk_at "ys"
    exact h cs 0 eg (by omega)

theorem rng_iv (lo : Int) (n : Nat) : rngD lo n = (iv lo n).map D.int := by
  unfold rngD iv
  rw [List.map_map]
  rfl
theorem iv_last {a b : Int} (h : a ≤ b) : atI ((iv a (b + 1 - a).toNat).map D.int) (-1) = some (.int b) := by
  obtain ⟨n, e⟩ : ∃ n : Nat, (b + 1 - a).toNat = n + 1 := ⟨(b - a).toNat, by omega⟩
  rw [e]
  unfold iv
  rw [List.range_succ, List.map_append, List.map_append, List.map_cons, List.map_nil, List.map_cons, List.map_nil, ix_neg1]
  congr 2
  omega
theorem iv_in {a b x : Int} (h : a ≤ b) : decide (x ∈ iv a (b + 1 - a).toNat) = decide (a ≤ x ∧ x ≤ b) := by
  have : (x ∈ iv a (b + 1 - a).toNat) ↔ (a ≤ x ∧ x ≤ b) := by
    rw [iv_mem]
    omega
  simp only [this]
abbrev Stp (a b : Int) : D := .lst ((iv a (b + 1 - a).toNat).map D.int)
theorem y_steps (a b : Int) (h1 : 1 ≤ a) (h2 : a < b) (h3 : b ≤ 12) {K : Rv → List Sl → Prop} (h : K (.c (.lst ((iv a (b + 1 - a).toNat).map D.int))) [.dat (.tup [.int a, .int b])]) : Y G_l_steps [.dat (.tup [.int a, .int b])] K NX := by
  unfold G_l_steps B_l_steps
  walk_at "ys"
  refine ⟨by omega, ?_⟩
  refine Y_lcGo (f := some) (ρ0 := [.dat (.tup [.int a, .int b]), .un]) (P := fun x => True) (fun x acc _ hl => ?_) _ _ (fun x hx => trivial) ?_ ?_
  · walk_at "ys"
  · rw [rng_len]
    simp
    omega
  · rw [List.nil_append, List.filterMap_some, rng_iv]
    walk_at "ys"
    exact h
theorem qe_mt {m n : Option Bool} : D.eq? (.str (mt [m])) (.str (mt [n])) = some (decide (m = n)) := by
  show some (decide (mt [m] = mt [n])) = _
  congr 1
  exact decide_eq_decide.mpr (by rw [mt1])
theorem y_answerL (R : List Row) (age d : Int) (bs : List Bool) (hR : ∀ r ∈ R, r.2.2.1.length = bs.length) (hb : bs.length ≤ 1000) {K : Rv → List Sl → Prop} (h : K (.d (.bl (ans R age d bs))) [.dat (.lst (R.map rd)), .dat (.int age), .dat (.int d), .dat (Ws bs)]) : Y G_l_answer [.dat (.lst (R.map rd)), .dat (.int age), .dat (.int d), .dat (Ws bs)] K NX := by
  unfold G_l_answer B_l_answer
  walk_at "ys"
  refine Y_loop (I := fun r ρ => ∃ (rest : List Row) (s4 s5 s6 : Sl), r = rest.map rd ∧ (∀ r ∈ rest, r.2.2.1.length = bs.length) ∧ ans R age d bs = ans rest age d bs ∧ canSet s4 = true ∧ canSet s5 = true ∧ canSet s6 = true ∧ ρ = [.dat (.lst (R.map rd)), .dat (.int age), .dat (.int d), .dat (Ws bs), s4, s5, s6])
    ⟨R, .un, .un, .un, rfl, hR, rfl, rfl, rfl, rfl, rfl⟩ (fun x r ρ => ?_) (fun ρ => ?_)
  · rintro ⟨rest, s4, s5, s6, er, hr, ea, c4, c5, c6, rfl⟩
    cases rest with
    | nil => cases er
    | cons r rest =>
      obtain ⟨ra, rb, ms, lay⟩ := r
      cases er
      have hm : ms.length = bs.length := hr _ List.mem_cons_self
      have hr' : ∀ r ∈ rest, r.2.2.1.length = bs.length := fun r hq => hr r (List.mem_cons_of_mem _ hq)
      have ea : ans R age d bs = if (decide (ra = 0 ∨ ra = age) && (decide (rb ≤ d) && mtc ms bs)) = true then lay else ans rest age d bs := ea
      refine Y_tgN rfl c4 ?_
      generalize eF : (decide (ra = 0 ∨ ra = age) && decide (rb ≤ d)) = F at *
      have et : rd (ra, rb, ms, lay) = .tup [.int ra, .int rb, .str (mt ms), .bl lay] := rfl
      rw [← Bool.and_assoc, eF] at ea
      rw [et]
      generalize hw : D.lst (R.map rd) = w at *
      refine Y_cut (J := fun ρ => ρ = [.dat w, .dat (.int age), .dat (.int d), .dat (Ws bs), .dat (.tup [.int ra, .int rb, .str (mt ms), .bl lay]), .dat (.bl F), s6]) ?_ ?_
      · walk_at "ys"
        rw [← eF]
        split
        · rename_i q
          rw [decide_eq_true (Or.inl q), Bool.true_and]
          exact ⟨c5, rfl⟩
        · rename_i q
          split
          · rename_i q2
            rw [decide_eq_true (Or.inr q2), Bool.true_and]
            exact ⟨c5, rfl⟩
          · rename_i q2
            rw [decide_eq_false (fun z => z.elim q q2), Bool.false_and]
            exact ⟨c5, rfl⟩
      rintro _ rfl
      refine Y_cut (J := fun ρ => ∃ s6, canSet s6 = true ∧ ρ = [.dat w, .dat (.int age), .dat (.int d), .dat (Ws bs), .dat (.tup [.int ra, .int rb, .str (mt ms), .bl lay]), .dat (.bl (F && mtc ms bs)), s6]) ?_ ?_
      · walk_at "ys"
        rw [mt_len]
        refine ⟨by omega, by omega, ?_⟩
        refine Y_loop (I := fun r ρ => ∃ (i : Nat) (s6 : Sl), r = (rngD 0 (ms.length : Int).toNat).drop i ∧ i ≤ ms.length ∧ canSet s6 = true ∧ ρ = [.dat w, .dat (.int age), .dat (.int d), .dat (Ws bs), .dat (.tup [.int ra, .int rb, .str (mt ms), .bl lay]), .dat (.bl (F && ((ms.zip bs).take i).all fun p => mq p.1 p.2)), s6])
          ⟨0, s6, rfl, Nat.zero_le _, c6, by simp⟩ (fun x r ρ => ?_) (fun ρ => ?_)
        · rintro ⟨i, s6, er, il, c6, rfl⟩
          obtain ⟨hi, rfl, rfl⟩ := rngc_lt er
          have hi1 : i < ms.length := by omega
          have hi2 : i < bs.length := by omega
          refine Y_tgN rfl c6 ?_
          have tk : ((ms.zip bs).take (i + 1)).all (fun p => mq p.1 p.2) = (((ms.zip bs).take i).all (fun p => mq p.1 p.2) && mq ms[i] bs[i]) := by
            rw [List.take_succ_eq_append_getElem (by rw [List.length_zip]; omega), List.all_append]
            simp [List.getElem_zip]
          have done : ∀ v, v = (F && ((ms.zip bs).take (i + 1)).all fun p => mq p.1 p.2) → ∃ (i' : Nat) (s6 : Sl), (rngD 0 (ms.length : Int).toNat).drop (i + 1) = (rngD 0 (ms.length : Int).toNat).drop i' ∧ i' ≤ ms.length ∧ canSet s6 = true ∧ [Sl.dat w, .dat (.int age), .dat (.int d), .dat (Ws bs), .dat (.tup [.int ra, .int rb, .str (mt ms), .bl lay]), .dat (.bl v), .dat (.int (0 + (i : Int)))] = [.dat w, .dat (.int age), .dat (.int d), .dat (Ws bs), .dat (.tup [.int ra, .int rb, .str (mt ms), .bl lay]), .dat (.bl (F && ((ms.zip bs).take i').all fun p => mq p.1 p.2)), s6] := by
            rintro v rfl
            exact ⟨i + 1, _, rfl, hi1, rfl, rfl⟩
          rw [tk] at done
          generalize ((ms.zip bs).take i).all (fun p => mq p.1 p.2) = A at *
          walk_at "ys"
          rw [Int.zero_add, mtx hi1 (by omega)]
          rw [Int.zero_add] at done
          refine ⟨_, rfl, ?_⟩
          rw [mt_q, qe_mt]
          refine ⟨_, rfl, ?_⟩
          rw [sgx (by omega) (by omega) (by omega)]
          simp only [Int.toNat_natCast]
          rw [← mt_sg]
          generalize ms[i] = m at *
          generalize bs[i] = c at *
          cases m with
          | none =>
            rw [decide_eq_true rfl]
            walk_at "ys"
            exact done _ (by unfold mq; simp)
          | some v =>
            rw [decide_eq_false (by intro z; cases z)]
            walk_at "ys"
            by_cases q : v = c
            · subst q
              rw [if_neg (fun z => z rfl)]
              exact done _ (by unfold mq; simp)
            · rw [if_pos (fun z => q (Option.some.inj (by rw [mt1] at z; exact z)))]
              exact done _ (by unfold mq; rw [decide_eq_false (fun z => z.elim (by intro z; cases z) fun z => q (Option.some.inj z))]; simp)
        · rintro ⟨i, s6, er, il, c6, rfl⟩
          have : i = ms.length := by
            have := rngc_ge er
            omega
          subst this
          rw [List.take_of_length_le (by rw [List.length_zip]; omega)]
          exact ⟨rfl, _, c6, rfl⟩
      rintro _ ⟨s6, c6, rfl⟩
      generalize (F && mtc ms bs) = G at *
      walk_at "ys"
      cases G with
      | true =>
        rw [if_pos rfl] at ea ⊢
        rw [← ea]
        exact h
      | false =>
        rw [if_neg (by decide)] at ea ⊢
        exact ⟨rest, _, _, _, rfl, hr', ea, rfl, rfl, c6, rfl⟩
  · rintro ⟨rest, s4, s5, s6, er, hr, ea, c4, c5, c6, rfl⟩
    cases rest with
    | cons => cases er
    | nil =>
      walk_at "ys"
      rw [ea] at h
      exact h

theorem cut_mid {α : Type} (xs : List α) {t u : Nat} (h1 : t ≤ u) (h2 : u ≤ xs.length) : cut xs (some (t : Int)) (some (u : Int)) = (xs.drop t).take (u - t) := by
  have e : ∀ d n : Nat, HT.sIx xs.length d (some (n : Int)) = min n xs.length := fun d n => by
    simp only [HT.sIx]
    (rw [if_neg (by omega), Int.toNat_natCast])
  unfold cut
  rw [e, e, Nat.min_eq_left h2, Nat.min_eq_left (Nat.le_trans h1 h2)]
theorem fl_mid {f : Nat → Bool} {N t s : Nat} (h : t + s ≤ N) : cut (fl f N) (some (t : Int)) (some ((t : Int) + (s : Int))) = fl (fun i => f (t + i)) s := by
  rw [show (t : Int) + (s : Int) = ((t + s : Nat) : Int) by omega, cut_mid _ (by omega) (by rw [fl_len]; exact h), fl_drop, fl_take (by omega)]
  congr 1
  omega
theorem y_play (s : Nat) (R : List Row) (a b : Int) (f : Nat → Bool) (N : Nat) (ab : a ≤ b) (hR : ∀ r ∈ R, r.2.2.1.length = s) (hN : N ≤ 1000) (hs : s ≤ N) {K : Rv → List Sl → Prop} (h : ∀ (cs : List Nat) (e : Nat), go f R s a b (N - s - 1) 2 [1] 1 1 = (cs, e) → cs.length ≤ 1001 → K (.d (.tup [.lst (cl cs), .int e])) [.dat (.int s), .dat (.lst (R.map rd)), .dat (Stp a b), .dat (Ws (fl f N))]) : Y G_l_play [.dat (.int s), .dat (.lst (R.map rd)), .dat (Stp a b), .dat (Ws (fl f N))] K NX := by
  generalize er : D.lst (R.map rd) = w at h ⊢
  unfold G_l_play B_l_play
  rw [Y_run0]
  show Y _ [.dat (.int s), .dat w, .dat (Stp a b), .dat (Ws (fl f N)), .un, .un, .un, .un, .un] _ _
  refine Y_cut (J := fun ρ => ρ = [.dat (.int s), .dat w, .dat (Stp a b), .dat (Ws (fl f N)), .cel .own (.lst (cl [1])), .un, .un, .un, .un]) ?_ ?_
  · walk_at "ys"
    rfl
  rintro _ rfl
  refine Y_cut (J := fun ρ => ρ = [.dat (.int s), .dat w, .dat (Stp a b), .dat (Ws (fl f N)), .cel .own (.lst (cl [1])), .dat (.int 1), .un, .un, .un]) ?_ ?_
  · walk_at "ys"
  rintro _ rfl
  walk_at "ys"
  rw [fl_len]
  refine ⟨by omega, by omega, ?_⟩
  rw [show ((N : Int) - (s : Int) + 1 - 2).toNat = N - s - 1 by omega]
  refine Y_loop (I := fun r ρ => ∃ (i : Nat) (cs : List Nat) (c : Nat) (d : Int) (s6 s7 s8 : Sl), r = (rngD 2 (N - s - 1)).drop i ∧ i ≤ N - s - 1 ∧ cs.getLast? = some c ∧ cs.length ≤ i + 1 ∧ go f R s a b (N - s - 1) 2 [1] 1 1 = go f R s a b (N - s - 1 - i) (2 + i) cs c d ∧ canSet s6 = true ∧ canSet s7 = true ∧ canSet s8 = true ∧ ρ = [.dat (.int s), .dat w, .dat (Stp a b), .dat (Ws (fl f N)), .cel .own (.lst (cl cs)), .dat (.int d), s6, s7, s8])
    ⟨0, [1], 1, 1, .un, .un, .un, rfl, Nat.zero_le _, rfl, by simp, rfl, rfl, rfl, rfl, rfl⟩ (fun x r ρ => ?_) (fun ρ => ?_)
  · rintro ⟨i, cs, c, d, s6, s7, s8, eq, il, hl, lc, eg, c6, c7, c8, rfl⟩
    obtain ⟨hi, rfl, rfl⟩ := rngc_lt eq
    rw [show N - s - 1 - i = (N - s - 1 - (i + 1)) + 1 by omega, go] at eg
    refine Y_tgN rfl c6 ?_
    refine Y_cut (J := fun ρ => ρ = [.dat (.int s), .dat w, .dat (Stp a b), .dat (Ws (fl f N)), .cel .own (.lst (cl cs)), .dat (.int (d + 1)), .dat (.int (2 + (i : Int))), s7, s8]) ?_ ?_
    · walk_at "ys"
    rintro _ rfl
    refine Y_cut (J := fun ρ => ρ = [.dat (.int s), .dat w, .dat (Stp a b), .dat (Ws (fl f N)), .cel .own (.lst (cl cs)), .dat (.int (dr1 f (2 + i) d)), .dat (.int (2 + (i : Int))), s7, s8]) ?_ ?_
    · walk_at "ys"
      rw [sgx (by omega) (by rw [fl_len]; omega) (by rw [fl_len]; omega), fl_get, show (2 + (i : Int) - 1).toNat = 2 + i - 1 by omega]
      unfold dr1
      cases f (2 + i - 1) <;> walk_at "ys"
    rintro _ rfl
    generalize ed : dr1 f (2 + i) d = d' at *
    refine Y_cut (J := fun ρ => ρ = [.dat (.int s), .dat w, .dat (Stp a b), .dat (Ws (fl f N)), .cel .own (.lst (cl cs)), .dat (.int d'), .dat (.int (2 + (i : Int))), .dat (.int (2 + (i : Int) - c)), s8]) ?_ ?_
    · walk_at "ys"
      rw [cl_last hl]
      exact ⟨_, rfl, rfl, _, rfl, c7, rfl⟩
    rintro _ rfl
    refine Y_cut (J := fun ρ => ρ = [.dat (.int s), .dat w, .dat (Stp a b), .dat (Ws (fl f N)), .cel .own (.lst (cl cs)), .dat (.int d'), .dat (.int (2 + (i : Int))), .dat (.int (2 + (i : Int) - c)), .dat (.bl false)]) ?_ ?_
    · walk_at "ys"
      exact c8
    rintro _ rfl
    have el : lay1 f R s a b c (2 + i) d' = (decide (0 < d') && (decide (2 + (i : Int) - c ∈ iv a (b + 1 - a).toNat) && ans R (2 + (i : Int) - c) d' (fl (fun k => f (2 + i + k)) s))) := by
      unfold lay1
      rw [show ((2 + i : Nat) : Int) = 2 + (i : Int) by omega, iv_in ab]
    rw [show ((2 + i : Nat) : Int) - c = 2 + (i : Int) - c by omega] at eg
    refine Y_cut (J := fun ρ => ρ = [.dat (.int s), .dat w, .dat (Stp a b), .dat (Ws (fl f N)), .cel .own (.lst (cl cs)), .dat (.int d'), .dat (.int (2 + (i : Int))), .dat (.int (2 + (i : Int) - c)), .dat (.bl (lay1 f R s a b c (2 + i) d'))]) ?_ ?_
    · rw [el]
      walk_at "ys"
      split
      · rename_i q0
        rw [decide_eq_true q0, Bool.true_and]
        split
        · rename_i q1
          rw [decide_eq_true q1, Bool.true_and]
          refine ⟨by rw [fl_len]; omega, ?_⟩
          rw [sg_cut, show (2 : Int) + (i : Int) = ((2 + i : Nat) : Int) by omega, fl_mid (by omega), ← er]
          refine y_answerL R _ d' _ (fun r hr => by rw [fl_len]; exact hR r hr) (by rw [fl_len]; omega) ?_
          walk_at "ys"
        · rename_i q1
          rw [decide_eq_false q1, Bool.false_and]
      · rename_i q0
        rw [decide_eq_false q0, Bool.false_and]
    rintro _ rfl
    walk_at "ys"
    cases e1 : lay1 f R s a b c (2 + i) d' with
    | true =>
      rw [e1, if_pos rfl] at eg
      walk_at "ys"
      rw [cl_len]
      refine ⟨by omega, i + 1, cs ++ [2 + i], 2 + i, d', .dat (.int (2 + (i : Int))), .dat (.int (2 + (i : Int) - c)), .dat (.bl true), rfl, by omega, by simp, by simp; omega, eg, rfl, rfl, rfl, ?_⟩
      rw [← cl_snoc]
      rfl
    | false =>
      rw [e1, if_neg (by decide)] at eg
      walk_at "ys"
      rw [iv_last ab]
      refine ⟨_, rfl, ?_⟩
      walk_at "ys"
      split
      · rename_i q
        rw [if_pos q] at eg
        exact h _ _ eg (by omega)
      · rename_i q
        rw [if_neg q] at eg
        exact ⟨i + 1, cs, c, d', _, _, _, rfl, by omega, hl, by omega, eg, rfl, rfl, rfl, rfl⟩
  · rintro ⟨i, cs, c, d, s6, s7, s8, eq, il, hl, lc, eg, c6, c7, c8, rfl⟩
    have : i = N - s - 1 := by
      have := rngc_ge eq
      omega
    subst this
    rw [Nat.sub_self, go] at eg
    walk_at "ys"
    exact h cs 0 eg (by omega)

theorem kl_consT (k : Int × Int) (ks : List (Int × Int)) : kl (k :: ks) = kd k :: kl ks := rfl
def trF (a b : Int) (ps : List (Int × Int)) (L : Int) : List (Int × Int) := ps.filter fun k => decide (ld a b k.1 = L)
def trT (a b : Int) (ps : List (Int × Int)) (L : Int) : D := match trF a b ps L with | k :: _ => .tup [.int k.1, .int k.2, .int L] | [] => .non
def trD (a b : Int) (ps : List (Int × Int)) (L s : Int) : D := if L ≤ s then .non else trT a b ps L
theorem trF_ne {a b : Int} {ks : List (Int × Int)} (a1 : 1 ≤ a) (ab : a < b) (hg : Gd 16 120 ks) (h : 0 < hdL a b ks) : trF a b (pl ks) (hdL a b ks) ≠ [] := by
  intro e
  rw [← hdL_pl a1 ab hg] at h e
  rcases hdL_mem (a := a) (b := b) (pl ks) 0 with z | ⟨k, hk, z⟩
  · have : hdL a b (pl ks) = 0 := z
    omega
  · have z : hdL a b (pl ks) = ld a b k.1 := z
    have : k ∈ trF a b (pl ks) (hdL a b (pl ks)) := List.mem_filter.mpr ⟨hk, decide_eq_true z.symm⟩
    rw [e] at this
    cases this
def trG (a b L : Int) (x : D) : Option D := match x with | .tup [.int w, .int g] => if ld a b w = L then some (.tup [.int w, .int g]) else none | _ => none
theorem trG_fm {a b L : Int} {ms : List (Int × Int)} : (kl ms).filterMap (trG a b L) = kl (trF a b ms L) := by
  induction ms with
  | nil => rfl
  | cons k ms ih =>
    obtain ⟨w, q⟩ := k
    rw [kl_consT, List.filterMap_cons]
    have e : trG a b L (kd (w, q)) = if ld a b w = L then some (kd (w, q)) else none := rfl
    rw [e]
    unfold trF at ih ⊢
    by_cases hs : ld a b w = L
    · rw [if_pos hs, List.filter_cons_of_pos (by simpa using hs), kl_consT, ← ih]
    · rw [if_neg hs, List.filter_cons_of_neg (by simpa using hs), ← ih]
theorem y_triple (a b L : Int) (ps : List (Int × Int)) (h1 : 1 ≤ a) (h2 : a < b) (h3 : b ≤ 12) {K : Rv → List Sl → Prop} (h : K (.d (trT a b ps L)) [.dat (.tup [.int a, .int b]), .dat (.lst (kl ps)), .dat (.int L)]) : Y G_l_triple [.dat (.tup [.int a, .int b]), .dat (.lst (kl ps)), .dat (.int L)] K NX := by
  generalize hw : D.lst (kl ps) = w at h ⊢
  unfold G_l_triple B_l_triple
  rw [Y_run0]
  show Y _ [.dat (.tup [.int a, .int b]), .dat w, .dat (.int L), .un] _ _
  rw [← hw]
  walk_at "ys"
  refine Y_loop (I := fun r ρ => ∃ (rest : List (Int × Int)) (s3 : Sl), r = kl rest ∧ trT a b ps L = trT a b rest L ∧ canSet s3 = true ∧ ρ = [.dat (.tup [.int a, .int b]), .dat (.lst (kl ps)), .dat (.int L), s3])
    ⟨ps, .un, rfl, rfl, rfl, rfl⟩ (fun x r ρ => ?_) (fun ρ => ?_)
  · rintro ⟨rest, s3, er, ea, c3, rfl⟩
    cases rest with
    | nil => cases er
    | cons k rest =>
      obtain ⟨v, g⟩ := k
      cases er
      refine Y_tgN rfl c3 ?_
      unfold kd
      walk_at "ys"
      refine y_leadL a b v h1 h2 h3 ?_
      walk_at "ys"
      unfold trT trF at ea
      split
      · rename_i q
        rw [List.filter_cons_of_pos (by simpa using q)] at ea
        have ea : trT a b ps L = .tup [.int v, .int g, .int L] := ea
        rw [ea, ← hw] at h
        exact h
      · rename_i q
        rw [List.filter_cons_of_neg (by simpa using q)] at ea
        exact ⟨rest, _, rfl, ea, rfl, rfl⟩
  · rintro ⟨rest, s3, er, ea, c3, rfl⟩
    cases rest with
    | cons => cases er
    | nil =>
      walk_at "ys"
      have ea : trT a b ps L = .non := ea
      rw [ea, ← hw] at h
      exact h
theorem y_trap (a b s : Int) (ks : List (Int × Int)) (h1 : 1 ≤ a) (h2 : a < b) (h3 : b ≤ 12) (s0 : 0 ≤ s) (hg : Gd 16 120 ks) {K : Rv → List Sl → Prop} {X : XC} (h : bdK a b ks = [] → K (.d (trD a b (pl ks) (hdL a b ks) s)) [.dat (La a b), .dat (Ci ks), .dat (.int s)])
    (hx : ∀ k r, bdK a b ks = k :: r → X .Unsound (some (kd k)) [.dat (La a b), .dat (Ci ks), .dat (.int s)]) : Y G_f_trap [.dat (La a b), .dat (Ci ks), .dat (.int s)] K X := by
  have gp := pl_gd hg
  unfold G_f_trap B_f_trap
  walk_at "ys"
  refine y_check_sound a b ks h1 h2 h3 hg (fun eb => ?_) (fun k r e => ?_)
  · have h := h eb
    walk_at "ys"
    refine y_lead_of a b ks h1 h2 h3 hg ?_
    walk_at "ys"
    unfold trD at h
    split
    · rename_i c
      rw [if_pos c] at h
      exact h
    · rename_i c
      rw [if_neg c] at h
      have hne := trF_ne h1 h2 hg (by omega)
      generalize hdL a b ks = L at *
      refine Y_lcGo (f := trG a b L) (ρ0 := [.dat (La a b), .dat (Ci ks), .dat (.int s), .dat (.int L), .un, .un, .un]) (P := fun x => ∃ k ∈ pl ks, x = kd k) (fun x acc ⟨k, hk, e⟩ hl => ?_) _ _ (fun x hx => ?_) ?_ ?_
      · subst e
        have := gp k hk
        obtain ⟨v, g⟩ := k
        rw [show trG a b L (kd (v, g)) = if ld a b v = L then some (kd (v, g)) else none from rfl]
        unfold kd
        walk_at "ys"
        refine y_leadP a b v h1 h2 h3 this.1 ?_
        walk_at "ys"
        split <;> rfl
      · obtain ⟨k, hk, e⟩ := List.mem_map.mp hx
        exact ⟨k, hk, e.symm⟩
      · have := pl_len ks
        rw [kl_len]
        simp
        omega
      · rw [List.nil_append, trG_fm]
        unfold trT at h
        cases e : trF a b (pl ks) L with
        | nil => exact absurd e hne
        | cons k r =>
          rw [e] at h
          obtain ⟨v, g⟩ := k
          rw [kl_consT]
          unfold kd
          walk_at "ys"
          exact h
  · have := hx k r e
    walk_at "ys"
    exact this

theorem rep_dots (n : Nat) : repS (sg [false]) n = sg (List.replicate n false) := by
  rw [sg_rep]
  congr 1
  induction n with
  | zero => rfl
  | succ n ih => rw [List.replicate_succ, List.flatten_cons, ih]; rfl
theorem rep_hash (n : Nat) : repS (sg [true]) n = sg (List.replicate n true) := by
  rw [sg_rep]
  congr 1
  induction n with
  | zero => rfl
  | succ n ih => rw [List.replicate_succ, List.flatten_cons, ih]; rfl
theorem three_fl (P W r : Nat) : List.replicate P false ++ List.replicate W true ++ List.replicate r false = fl (f1 P W) (P + W + r) := by
  rw [fl_three, List.append_assoc, show min P (P + W + r) = P by omega, show min W (P + W + r - P) = W by omega, show P + W + r - P - W = r by omega]
/-- the first coats from the hour g on -/
def late (g : Int) (q : List Nat) : List Nat := q.filter fun c => decide (g ≤ (c : Int))
def quiet (R : List Row) (s : Nat) (a b g : Int) : List Nat × Nat := go (fun _ => false) R s a b (g + b - 1).toNat 2 [1] 1 1
/-- the text of the trap -/
def trapT (R : List Row) (s : Nat) (a b : Int) (k : Int × Int) (L : Int) : List Bool :=
  match late k.2 (quiet R s a b k.2).1 with
  | [] => fl (fun _ => false) ((quiet R s a b k.2).2 + s)
  | x :: _ => fl (f1 ((x : Int) + L - 1).toNat k.1.toNat) ((go (f1 ((x : Int) + L - 1).toNat k.1.toNat) R s a b ((x : Int) + L + k.1 - 2).toNat 2 [1] 1 1).2 + s)
def lateF (g : Int) (x : D) : Option D := match x with | .int c => if g ≤ c then some (.int c) else none | _ => none
theorem late_fm {g : Int} {q : List Nat} : (cl q).filterMap (lateF g) = cl (late g q) := by
  induction q with
  | nil => rfl
  | cons c q ih =>
    have e : cl (c :: q) = .int (c : Int) :: cl q := rfl
    rw [e, List.filterMap_cons]
    have e2 : lateF g (.int (c : Int)) = if g ≤ (c : Int) then some (.int (c : Int)) else none := rfl
    rw [e2]
    unfold late at ih ⊢
    by_cases z : g ≤ (c : Int)
    · rw [if_pos z, List.filter_cons_of_pos (by simpa using z), ih]
      rfl
    · rw [if_neg z, List.filter_cons_of_neg (by simpa using z), ih]
theorem late_nil {g : Int} {q : List Nat} (h : late g q = []) : ∀ c ∈ q, (c : Int) < g := fun c hc => by
  rcases Int.lt_or_le (c : Int) g with z | z
  · exact z
  · have : c ∈ late g q := List.mem_filter.mpr ⟨hc, decide_eq_true z⟩
    rw [h] at this
    cases this
theorem late_cons {g : Int} {q r : List Nat} {x : Nat} (h : late g q = x :: r) : x ∈ q ∧ g ≤ (x : Int) := by
  have : x ∈ late g q := by rw [h]; simp
  obtain ⟨h1, h2⟩ := List.mem_filter.mp this
  exact ⟨h1, by simpa using h2⟩
theorem late_len (g : Int) (q : List Nat) : (late g q).length ≤ q.length := List.length_filter_le _ _

theorem bd_sk {a b : Int} {ks : List (Int × Int)} (h : bdK a b ks = []) {k : Int × Int} (hk : k ∈ pl ks) : k.1 < b ∧ ld a b k.1 < k.2 := by
  have : ¬ ((!sk a b k) = true) := fun z => by
    have : k ∈ bdK a b ks := List.mem_filter.mpr ⟨hk, z⟩
    rw [h] at this
    cases this
  unfold sk at this
  simp only [Bool.not_eq_true', Bool.and_eq_false_imp, decide_eq_true_eq, decide_eq_false_iff_not] at this
  omega
theorem y_trap_weather (s : Nat) (R : List Row) (a b : Int) (ks : List (Int × Int)) (h1 : 1 ≤ a) (h2 : a < b) (h3 : b ≤ 12) (s5 : s ≤ 5) (hR : ∀ r ∈ R, r.2.2.1.length ≤ 1000) (hg : Gd 16 120 ks) {K : Rv → List Sl → Prop} {X : XC}
    (hn : bdK a b ks = [] → hdL a b ks ≤ s → K (.d .non) [.dat (Ha s R), .dat (La a b), .dat (Ci ks)])
    (ht : ∀ k r, bdK a b ks = [] → (s : Int) < hdL a b ks → trF a b (pl ks) (hdL a b ks) = k :: r → K (.d (Ws (trapT R s a b k (hdL a b ks)))) [.dat (Ha s R), .dat (La a b), .dat (Ci ks)])
    (hx : ∀ k r, bdK a b ks = k :: r → X .Unsound (some (kd k)) [.dat (Ha s R), .dat (La a b), .dat (Ci ks)]) : Y G_f_trap_weather [.dat (Ha s R), .dat (La a b), .dat (Ci ks)] K X := by
  have gp := pl_gd hg
  unfold G_f_trap_weather B_f_trap_weather
  rw [Y_runB]
  show Y _ [.dat (Ha s R), .dat (La a b), .dat (Ci ks), .un, .un, .un, .un, .un, .un, .un, .un, .un, .un] _ _
  refine Y_cut (J := fun ρ => bdK a b ks = [] ∧ ρ = [.dat (Ha s R), .dat (La a b), .dat (Ci ks), .dat (trD a b (pl ks) (hdL a b ks) s), .un, .un, .un, .un, .un, .un, .un, .un, .un]) ?_ ?_
  · walk_at "ys"
    refine y_trap a b s ks h1 h2 h3 (by omega) hg (fun eb => ?_) (fun k r e => ?_)
    · walk_at "ys"
      exact eb
    · have := hx k r e
      walk_at "ys"
      exact this
  rintro _ ⟨eb, rfl⟩
  unfold trD
  by_cases c : hdL a b ks ≤ s
  · rw [if_pos c]
    walk_at "ys"
    exact hn eb c
  rw [if_neg c]
  have hne := trF_ne h1 h2 hg (by omega)
  have ht := fun k r e => ht k r eb (by omega) e
  generalize hdL a b ks = L at *
  unfold trT
  cases e : trF a b (pl ks) L with
  | nil => exact absurd e hne
  | cons k r =>
    have ht := ht k r e
    obtain ⟨w, g⟩ := k
    have km := List.mem_filter.mp (show (w, g) ∈ trF a b (pl ks) L by rw [e]; simp)
    have kb := gp _ km.1
    have kq := bd_sk eb km.1
    have el : ld a b w = L := by simpa using km.2
    simp only at kb kq
    rw [el] at kq
    clear e km eb
    refine Y_cut (J := fun ρ => ρ = [.dat (Ha s R), .dat (La a b), .dat (Ci ks), .dat (.tup [.int w, .int g, .int L]), .un, .un, .un, .un, .un, .un, .un, .un, .un]) ?_ ?_
    · walk_at "ys"
    rintro _ rfl
    refine Y_cut (J := fun ρ => ρ = [.dat (Ha s R), .dat (La a b), .dat (Ci ks), .dat (.tup [.int w, .int g, .int L]), .dat (.int w), .dat (.int g), .dat (.int L), .un, .un, .un, .un, .un, .un]) ?_ ?_
    · walk_at "ys"
    rintro _ rfl
    generalize eq : quiet R s a b g = q at *
    obtain ⟨q, e⟩ := q
    have eq2 := eq
    unfold quiet at eq2
    rw [show (g + b - 1).toNat = (g + b + s).toNat - s - 1 by omega] at eq2
    refine Y_cut (J := fun ρ => q.length ≤ 1001 ∧ ρ = [.dat (Ha s R), .dat (La a b), .dat (Ci ks), .dat (.tup [.int w, .int g, .int L]), .dat (.int w), .dat (.int g), .dat (.int L), .dat (.lst (cl q)), .dat (if e = 0 then .non else .int e), .un, .un, .un, .un]) ?_ ?_
    · walk_at "ys"
      refine ⟨by omega, ?_⟩
      rw [rep_dots, ← fl_dots]
      refine y_played s R a b _ _ hR (by omega) (by omega) (fun cs e' eg lc => ?_)
      rw [eq2] at eg
      cases eg
      walk_at "ys"
      exact lc
    rintro _ ⟨ql, rfl⟩
    refine Y_cut (J := fun ρ => ρ = [.dat (Ha s R), .dat (La a b), .dat (Ci ks), .dat (.tup [.int w, .int g, .int L]), .dat (.int w), .dat (.int g), .dat (.int L), .dat (.lst (cl q)), .dat (if e = 0 then .non else .int e), .dat (.lst (cl (late g q))), .un, .un, .un]) ?_ ?_
    · walk_at "ys"
      refine Y_lcGo (f := lateF g) (ρ0 := [.dat (Ha s R), .dat (La a b), .dat (Ci ks), .dat (.tup [.int w, .int g, .int L]), .dat (.int w), .dat (.int g), .dat (.int L), .dat (.lst (cl q)), .dat (if e = 0 then .non else .int e), .un, .un, .un, .un]) (P := fun x => ∃ c : Nat, x = .int (c : Int)) (fun x acc ⟨c, ec⟩ hl => ?_) _ _ (fun x hx => ?_) ?_ ?_
      · subst ec
        rw [show lateF g (.int (c : Int)) = if g ≤ (c : Int) then some (.int (c : Int)) else none from rfl]
        walk_at "ys"
        split <;> rfl
      · obtain ⟨c, hc, e⟩ := List.mem_map.mp hx
        exact ⟨c, e.symm⟩
      · rw [cl_len]
        simp
        omega
      · rw [List.nil_append, late_fm]
        walk_at "ys"
    rintro _ rfl
    have tT : trapT R s a b (w, g) L = match late g q with
        | [] => fl (fun _ => false) (e + s)
        | x :: _ => fl (f1 ((x : Int) + L - 1).toNat w.toNat) ((go (f1 ((x : Int) + L - 1).toNat w.toNat) R s a b ((x : Int) + L + w - 2).toNat 2 [1] 1 1).2 + s) := by
      unfold trapT
      rw [eq]
      try rfl
    rw [tT] at ht
    cases el2 : late g q with
    | nil =>
      rw [el2] at ht
      obtain ⟨t1, t2, t3⟩ := tr_none (R := R) (s := s) (a := a) (b := b) (g := g) (by omega) (by omega) eq (late_nil el2)
      rw [if_neg (by omega)]
      walk_at "ys"
      rw [if_pos (by rfl)]
      refine ⟨by omega, ?_⟩
      rw [rep_dots, ← fl_dots, show ((e : Int) + (s : Int)).toNat = e + s by omega]
      exact ht
    | cons x r2 =>
      rw [el2] at ht
      obtain ⟨x1, x2⟩ := late_cons el2
      obtain ⟨xb, cs, e2, t1, t2, t3⟩ := tr_late (R := R) (s := s) (a := a) (b := b) (g := g) (w := w) h1 h2 (by omega) (by omega) (by omega) eq x1 x2
      rw [el] at t2 t3
      simp only at ht
      rw [t3 _ (by omega)] at ht
      have ex : cl (x :: r2) = .int (x : Int) :: cl r2 := rfl
      rw [ex]
      generalize hd8 : (if e = 0 then D.non else .int (e : Int)) = d8
      refine Y_cut (J := fun ρ => ρ = [.dat (Ha s R), .dat (La a b), .dat (Ci ks), .dat (.tup [.int w, .int g, .int L]), .dat (.int w), .dat (.int g), .dat (.int L), .dat (.lst (cl q)), .dat d8, .dat (.lst (.int (x : Int) :: cl r2)), .un, .un, .un]) ?_ ?_
      · walk_at "ys"
        rw [if_neg (by intro z; cases z)]
        trivial
      rintro _ rfl
      refine Y_cut (J := fun ρ => ρ = [.dat (Ha s R), .dat (La a b), .dat (Ci ks), .dat (.tup [.int w, .int g, .int L]), .dat (.int w), .dat (.int g), .dat (.int L), .dat (.lst (cl q)), .dat d8, .dat (.lst (.int (x : Int) :: cl r2)), .dat (Ws (fl (f1 ((x : Int) + L - 1).toNat w.toNat) (((x : Int) + L - 1).toNat + w.toNat + s))), .un, .un]) ?_ ?_
      · walk_at "ys"
        rw [rep_dots, rep_hash, rep_dots, Int.toNat_natCast]
        walk_at "ys"
        rw [three_fl]
        simp only [List.length_append, List.length_replicate]
        exact ⟨by omega, by omega, by omega, by omega, by omega, trivial⟩
      rintro _ rfl
      refine Y_cut (J := fun ρ => ∃ d, ρ = [.dat (Ha s R), .dat (La a b), .dat (Ci ks), .dat (.tup [.int w, .int g, .int L]), .dat (.int w), .dat (.int g), .dat (.int L), .dat (.lst (cl q)), .dat (.int (e2 : Int)), .dat (.lst (.int (x : Int) :: cl r2)), .dat (Ws (fl (f1 ((x : Int) + L - 1).toNat w.toNat) (((x : Int) + L - 1).toNat + w.toNat + s))), .dat d, .un]) ?_ ?_
      · walk_at "ys"
        refine y_played s R a b _ _ hR (by omega) (by omega) (fun cs' e' eg lc => ?_)
        rw [t3 _ (by omega)] at eg
        cases eg
        rw [if_neg (by omega)]
        walk_at "ys"
        exact ⟨_, rfl⟩
      rintro _ ⟨d, rfl⟩
      walk_at "ys"
      rw [sg_cut, cut_to _ (by omega), fl_take (by omega), show ((e2 : Int) + (s : Int)).toNat = e2 + s by omega, fl_len]
      exact ⟨by omega, ht⟩

theorem y_text (s : Nat) (R : List Row) (a b w g L : Int) (kk : List (Int × Int)) (h1 : 1 ≤ a) (h2 : a < b) (h3 : b ≤ 12) (s5 : s ≤ 5) (hR : ∀ r ∈ R, r.2.2.1.length = s) (hg : Gd 16 120 kk) (km : (w, g) ∈ kk) (el : ld a b w = L) (sL : (s : Int) < L) (Lg : L < g) {K : Rv → List Sl → Prop}
    (h : K (.d (Ws (trapT R s a b (w, g) L))) [.dat (.tup [.int a, .int b]), .dat (.lst (kl kk)), .dat (.tup [.int w, .int g, .int L]), .dat (.int s), .dat (.lst (R.map rd))]) : Y G_l_text [.dat (.tup [.int a, .int b]), .dat (.lst (kl kk)), .dat (.tup [.int w, .int g, .int L]), .dat (.int s), .dat (.lst (R.map rd))] K NX := by
  have kb := hg _ km
  simp only at kb
  have hn : ∀ k ∈ kk, 0 ≤ k.1 := fun k hk => by have := hg k hk; omega
  generalize eR : D.lst (R.map rd) = dR at h ⊢
  generalize eK : D.lst (kl kk) = dK at h ⊢
  unfold G_l_text B_l_text
  rw [Y_run0]
  show Y _ [.dat (.tup [.int a, .int b]), .dat dK, .dat (.tup [.int w, .int g, .int L]), .dat (.int s), .dat dR, .un, .un, .un, .un, .un, .un, .un] _ _
  refine Y_cut (J := fun ρ => ρ = [.dat (.tup [.int a, .int b]), .dat dK, .dat (.tup [.int w, .int g, .int L]), .dat (.int s), .dat dR, .dat (Stp a b), .un, .un, .un, .un, .un, .un]) ?_ ?_
  · walk_at "ys"
    refine y_steps a b h1 h2 h3 ?_
    walk_at "ys"
  rintro _ rfl
  generalize eq : quiet R s a b g = q at *
  obtain ⟨q, e⟩ := q
  have eq2 := eq
  unfold quiet at eq2
  rw [show (g + b - 1).toNat = (g + b + s).toNat - s - 1 by omega] at eq2
  refine Y_cut (J := fun ρ => q.length ≤ 1001 ∧ ρ = [.dat (.tup [.int a, .int b]), .dat dK, .dat (.tup [.int w, .int g, .int L]), .dat (.int s), .dat dR, .dat (Stp a b), .dat (.tup [.lst (cl q), .int e]), .un, .un, .un, .un, .un]) ?_ ?_
  · walk_at "ys"
    refine ⟨by omega, ?_⟩
    rw [rep_dots, ← fl_dots, ← eR]
    refine y_play s R a b _ _ (by omega) hR (by omega) (by omega) (fun cs e' eg lc => ?_)
    rw [eq2] at eg
    cases eg
    walk_at "ys"
    exact lc
  rintro _ ⟨ql, rfl⟩
  refine Y_cut (J := fun ρ => ρ = [.dat (.tup [.int a, .int b]), .dat dK, .dat (.tup [.int w, .int g, .int L]), .dat (.int s), .dat dR, .dat (Stp a b), .dat (.tup [.lst (cl q), .int e]), .dat (.lst (cl (late g q))), .un, .un, .un, .un]) ?_ ?_
  · walk_at "ys"
    refine Y_lcGo (f := lateF g) (ρ0 := [.dat (.tup [.int a, .int b]), .dat dK, .dat (.tup [.int w, .int g, .int L]), .dat (.int s), .dat dR, .dat (Stp a b), .dat (.tup [.lst (cl q), .int e]), .un, .un, .un, .un, .un]) (P := fun x => ∃ c : Nat, x = .int (c : Int)) (fun x acc ⟨c, ec⟩ hl => ?_) _ _ (fun x hx => ?_) ?_ ?_
    · subst ec
      rw [show lateF g (.int (c : Int)) = if g ≤ (c : Int) then some (.int (c : Int)) else none from rfl]
      walk_at "ys"
      split <;> rfl
    · obtain ⟨c, hc, e⟩ := List.mem_map.mp hx
      exact ⟨c, e.symm⟩
    · rw [cl_len]
      simp
      omega
    · rw [List.nil_append, late_fm]
      walk_at "ys"
  rintro _ rfl
  have tT : trapT R s a b (w, g) L = match late g q with
      | [] => fl (fun _ => false) (e + s)
      | x :: _ => fl (f1 ((x : Int) + L - 1).toNat w.toNat) ((go (f1 ((x : Int) + L - 1).toNat w.toNat) R s a b ((x : Int) + L + w - 2).toNat 2 [1] 1 1).2 + s) := by
    unfold trapT
    rw [eq]
    try rfl
  rw [tT] at h
  have eb : e ≤ 1000 := by
    rcases Nat.eq_zero_or_pos e with z | z
    · omega
    · have := go_same _ 2 [1] 1 1 (by omega) eq2 (by omega) (fun _ _ => rfl)
      omega
  have ll := late_len g q
  refine Y_cut (J := fun ρ => ρ = [.dat (.tup [.int a, .int b]), .dat dK, .dat (.tup [.int w, .int g, .int L]), .dat (.int s), .dat dR, .dat (Stp a b), .dat (.tup [.lst (cl q), .int e]), .dat (.lst (cl (late g q))), .dat (Ws (fl (fun _ => false) (e + s))), .un, .un, .un]) ?_ ?_
  · walk_at "ys"
    rw [rep_dots, ← fl_dots, show ((e : Int) + (s : Int)).toNat = e + s by omega]
    exact ⟨by omega, rfl⟩
  rintro _ rfl
  refine Y_cut (J := fun ρ => ρ = [.dat (.tup [.int a, .int b]), .dat dK, .dat (.tup [.int w, .int g, .int L]), .dat (.int s), .dat dR, .dat (Stp a b), .dat (.tup [.lst (cl q), .int e]), .dat (.lst (cl (late g q))), .dat (Ws (fl (fun _ => false) (e + s))), .dat (.int e), .un, .un]) ?_ ?_
  · walk_at "ys"
  rintro _ rfl
  cases el2 : late g q with
  | nil =>
    rw [el2] at h
    obtain ⟨t1, t2, t3⟩ := tr_none (R := R) (s := s) (a := a) (b := b) (g := g) (by omega) (by omega) eq (late_nil el2)
    generalize hz : cl ([] : List Nat) = z
    refine Y_cut (J := fun ρ => ρ = [.dat (.tup [.int a, .int b]), .dat dK, .dat (.tup [.int w, .int g, .int L]), .dat (.int s), .dat dR, .dat (Stp a b), .dat (.tup [.lst (cl q), .int e]), .dat (.lst z), .dat (Ws (fl (fun _ => false) (e + s))), .dat (.int e), .un, .un]) ?_ ?_
    · walk_at "ys"
      rw [← hz, if_neg (show ¬ ((0 : Int) < ((cl []).length : Int)) by decide)]
      trivial
    rintro _ rfl
    refine Y_cut (J := fun ρ => ρ = [.dat (.tup [.int a, .int b]), .dat dK, .dat (.tup [.int w, .int g, .int L]), .dat (.int s), .dat dR, .dat (Stp a b), .dat (.tup [.lst (cl q), .int e]), .dat (.lst z), .dat (Ws (fl (fun _ => false) (e + s))), .dat (.int e), .dat (.int e), .un]) ?_ ?_
    · walk_at "ys"
      rw [← eR]
      refine y_play s R a b _ _ (by omega) hR (by omega) (by omega) (fun cs e' eg lc => ?_)
      rw [t3 _ (by omega)] at eg
      cases eg
      walk_at "ys"
    rintro _ rfl
    walk_at "ys"
    rw [sg_cut, cut_to _ (by omega), fl_take (by omega), show ((e : Int) + (s : Int)).toNat = e + s by omega, fl_len, ← eK]
    (rw [if_neg (by omega), if_neg (by omega)])
    refine ⟨by omega, ?_⟩
    refine y_breach kk _ hn (by rw [fl_len]; omega) ?_
    rw [br_dots]
    walk_at "ys"
    rw [sg_cut, cut_to _ (by omega), fl_take (by omega), show ((e : Int) + (s : Int)).toNat = e + s by omega, eK]
    exact ⟨by rw [fl_len]; omega, h⟩
  | cons x r2 =>
    rw [el2] at h ll
    obtain ⟨x1, x2⟩ := late_cons el2
    obtain ⟨xb, cs, e2, t1, t2, t3⟩ := tr_late (R := R) (s := s) (a := a) (b := b) (g := g) (w := w) h1 h2 (by omega) (by omega) (by omega) eq x1 x2
    rw [el] at t2 t3
    simp only at h
    rw [t3 _ (by omega)] at h
    have ex : cl (x :: r2) = .int (x : Int) :: cl r2 := rfl
    rw [ex]
    refine Y_cut (J := fun ρ => ρ = [.dat (.tup [.int a, .int b]), .dat dK, .dat (.tup [.int w, .int g, .int L]), .dat (.int s), .dat dR, .dat (Stp a b), .dat (.tup [.lst (cl q), .int e]), .dat (.lst (.int (x : Int) :: cl r2)), .dat (Ws (fl (f1 ((x : Int) + L - 1).toNat w.toNat) (((x : Int) + L - 1).toNat + w.toNat + (b + s).toNat))), .dat (.int ((x : Int) + L + w - 1)), .un, .un]) ?_ ?_
    · walk_at "ys"
      rw [rep_dots, rep_hash, rep_dots]
      walk_at "ys"
      rw [three_fl]
      simp only [List.length_append, List.length_replicate]
      rw [if_pos (by omega)]
      exact ⟨by omega, by omega, by omega, by omega, by omega, trivial⟩
    rintro _ rfl
    refine Y_cut (J := fun ρ => ρ = [.dat (.tup [.int a, .int b]), .dat dK, .dat (.tup [.int w, .int g, .int L]), .dat (.int s), .dat dR, .dat (Stp a b), .dat (.tup [.lst (cl q), .int e]), .dat (.lst (.int (x : Int) :: cl r2)), .dat (Ws (fl (f1 ((x : Int) + L - 1).toNat w.toNat) (((x : Int) + L - 1).toNat + w.toNat + (b + s).toNat))), .dat (.int ((x : Int) + L + w - 1)), .dat (.int e2), .un]) ?_ ?_
    · walk_at "ys"
      rw [← eR]
      refine y_play s R a b _ _ (by omega) hR (by omega) (by omega) (fun cs' e' eg lc => ?_)
      rw [t3 _ (by omega)] at eg
      cases eg
      walk_at "ys"
    rintro _ rfl
    walk_at "ys"
    rw [sg_cut, cut_to _ (by omega), fl_take (by omega), show ((e2 : Int) + (s : Int)).toNat = e2 + s by omega, fl_len, ← eK]
    (rw [if_neg (by omega), if_neg (by omega)])
    refine ⟨by omega, ?_⟩
    refine y_breach kk _ hn (by rw [fl_len]; omega) ?_
    rw [br_text (by omega) (by have := wl_le (r := (((x : Int) + L - 1).toNat : Int)) km (by simp only; omega) hn; simp only at this; omega)]
    walk_at "ys"
    rw [sg_cut, cut_to _ (by omega), fl_take (by omega), show ((e2 : Int) + (s : Int)).toNat = e2 + s by omega, eK]
    exact ⟨by rw [fl_len]; omega, h⟩

theorem trapT_ok {s : Nat} {R : List Row} {a b w g L : Int} (h1 : 1 ≤ a) (h2 : a < b) (h3 : b ≤ 12) (s5 : s ≤ 5) (kb : 1 ≤ w ∧ w ≤ 16 ∧ 1 ≤ g ∧ g ≤ 120) (el : ld a b w = L) (sL : (s : Int) < L) (Lg : L < g) : ∃ (f : Nat → Bool) (e : Nat) (cs : List Nat), trapT R s a b (w, g) L = fl f (e + s) ∧ 2 ≤ e ∧ e ≤ 400 ∧ ∀ m, e < 2 + m → go f R s a b m 2 [1] 1 1 = (cs, e) := by
  generalize eq : quiet R s a b g = q at *
  obtain ⟨q, e⟩ := q
  have tT : trapT R s a b (w, g) L = match late g q with
      | [] => fl (fun _ => false) (e + s)
      | x :: _ => fl (f1 ((x : Int) + L - 1).toNat w.toNat) ((go (f1 ((x : Int) + L - 1).toNat w.toNat) R s a b ((x : Int) + L + w - 2).toNat 2 [1] 1 1).2 + s) := by
    unfold trapT
    rw [eq]
    try rfl
  rw [tT]
  cases el2 : late g q with
  | nil =>
    obtain ⟨t1, t2, t3⟩ := tr_none (R := R) (s := s) (a := a) (b := b) (g := g) (by omega) (by omega) eq (late_nil el2)
    exact ⟨_, e, q, rfl, t1, by omega, t3⟩
  | cons x r2 =>
    obtain ⟨x1, x2⟩ := late_cons el2
    obtain ⟨xb, cs, e2, t1, t2, t3⟩ := tr_late (R := R) (s := s) (a := a) (b := b) (g := g) (w := w) h1 h2 (by omega) (by omega) (by omega) eq x1 x2
    rw [el] at t2 t3
    refine ⟨_, e2, cs, ?_, t1, by omega, t3⟩
    simp only
    rw [t3 _ (by omega)]
theorem y_trapped (s : Nat) (R : List Row) (a b : Int) (kk : List (Int × Int)) (h1 : 1 ≤ a) (h2 : a < b) (h3 : b ≤ 12) (s5 : s ≤ 5) (hR : ∀ r ∈ R, r.2.2.1.length = s) (hg : Gd 16 120 kk) (eb : bdK a b kk = []) {K : Rv → List Sl → Prop}
    (h : K (.d (.bl true)) [.dat (.tup [.int a, .int b]), .dat (.lst (kl kk)), .dat (trD a b (pl kk) (hdL a b kk) s), .dat (Ha s R), .dat (Ci kk), .dat (.int s), .dat (.lst (R.map rd))]) : Y G_l_trapped [.dat (.tup [.int a, .int b]), .dat (.lst (kl kk)), .dat (trD a b (pl kk) (hdL a b kk) s), .dat (Ha s R), .dat (Ci kk), .dat (.int s), .dat (.lst (R.map rd))] K NX := by
  have hR2 : ∀ r ∈ R, r.2.2.1.length ≤ 1000 := fun r hr => by rw [hR r hr]; omega
  have gp := pl_gd hg
  generalize eT : trD a b (pl kk) (hdL a b kk) s = dT at h ⊢
  unfold G_l_trapped B_l_trapped
  rw [Y_run0]
  show Y _ [.dat (.tup [.int a, .int b]), .dat (.lst (kl kk)), .dat dT, .dat (Ha s R), .dat (Ci kk), .dat (.int s), .dat (.lst (R.map rd)), .un, .un] _ _
  unfold trD at eT
  by_cases c : hdL a b kk ≤ s
  · rw [if_pos c] at eT
    subst eT
    refine Y_cut (J := fun ρ => ρ = [.dat (.tup [.int a, .int b]), .dat (.lst (kl kk)), .dat .non, .dat (Ha s R), .dat (Ci kk), .dat (.int s), .dat (.lst (R.map rd)), .dat .non, .un]) ?_ ?_
    · walk_at "ys"
      refine y_lac a b h1 h2 h3 ?_
      walk_at "ys"
      refine y_trap_weather s R a b kk h1 h2 h3 s5 hR2 hg (fun _ _ => ?_) (fun _ _ _ z _ => by omega) (fun _ _ z => by rw [eb] at z; cases z)
      walk_at "ys"
    rintro _ rfl
    walk_at "ys"
    exact h
  · rw [if_neg c] at eT
    have hne := trF_ne h1 h2 hg (by omega)
    unfold trT at eT
    cases e : trF a b (pl kk) (hdL a b kk) with
    | nil => exact absurd e hne
    | cons k r =>
      rw [e] at eT
      obtain ⟨w, g⟩ := k
      simp only at eT
      have km := List.mem_filter.mp (show (w, g) ∈ trF a b (pl kk) (hdL a b kk) by rw [e]; simp)
      have kb := gp _ km.1
      have kq := bd_sk eb km.1
      have el : ld a b w = hdL a b kk := by simpa using km.2
      simp only at kb kq
      rw [el] at kq
      have kr : (w, g) ∈ kk := pl_sub hg.pos km.1
      obtain ⟨f, e0, cs, t1, t2, t3, t4⟩ := trapT_ok (R := R) (s := s) h1 h2 h3 s5 kb el (by omega) kq.2
      subst eT
      refine Y_cut (J := fun ρ => ρ = [.dat (.tup [.int a, .int b]), .dat (.lst (kl kk)), .dat (.tup [.int w, .int g, .int (hdL a b kk)]), .dat (Ha s R), .dat (Ci kk), .dat (.int s), .dat (.lst (R.map rd)), .dat (Ws (fl f (e0 + s))), .un]) ?_ ?_
      · walk_at "ys"
        refine y_lac a b h1 h2 h3 ?_
        walk_at "ys"
        refine y_trap_weather s R a b kk h1 h2 h3 s5 hR2 hg (fun _ z => absurd z c) (fun k' r' _ _ ek => ?_) (fun _ _ z => by rw [eb] at z; cases z)
        rw [e] at ek
        obtain ⟨rfl, rfl⟩ := List.cons.inj ek
        rw [t1]
        walk_at "ys"
      rintro _ rfl
      refine Y_cut (J := fun ρ => ρ = [.dat (.tup [.int a, .int b]), .dat (.lst (kl kk)), .dat (.tup [.int w, .int g, .int (hdL a b kk)]), .dat (Ha s R), .dat (Ci kk), .dat (.int s), .dat (.lst (R.map rd)), .dat (Ws (fl f (e0 + s))), .un]) ?_ ?_
      · walk_at "ys"
      rintro _ rfl
      refine Y_cut (J := fun ρ => ρ = [.dat (.tup [.int a, .int b]), .dat (.lst (kl kk)), .dat (.tup [.int w, .int g, .int (hdL a b kk)]), .dat (Ha s R), .dat (Ci kk), .dat (.int s), .dat (.lst (R.map rd)), .dat (Ws (fl f (e0 + s))), .dat (Ws (fl f (e0 + s)))]) ?_ ?_
      · walk_at "ys"
        refine y_text s R a b w g _ kk h1 h2 h3 s5 hR hg kr el (by omega) kq.2 ?_
        rw [t1]
        walk_at "ys"
      rintro _ rfl
      refine Y_cut (J := fun ρ => ρ = [.dat (.tup [.int a, .int b]), .dat (.lst (kl kk)), .dat (.tup [.int w, .int g, .int (hdL a b kk)]), .dat (Ha s R), .dat (Ci kk), .dat (.int s), .dat (.lst (R.map rd)), .dat (Ws (fl f (e0 + s))), .dat (Ws (fl f (e0 + s)))]) ?_ ?_
      · walk_at "ys"
        rw [if_neg (by rw [sg_eq]; intro z; have := congrArg List.length z; rw [fl_len] at this; simp at this; omega)]
        refine y_sameS _ _ ?_
        walk_at "ys"
      rintro _ rfl
      walk_at "ys"
      refine y_steps a b h1 h2 h3 ?_
      walk_at "ys"
      refine y_play s R a b f _ (by omega) hR (by omega) (by omega) (fun cs' e' eg lc => ?_)
      rw [t4 _ (by omega)] at eg
      cases eg
      walk_at "ys"
      rw [fl_len, decide_eq_true (by omega)]
      exact ⟨by omega, h⟩

/-- what can be the same as itself -/
def sok : Nat → D → Prop
  | 0, _ => False
  | _ + 1, .int _ => True
  | _ + 1, .non => True
  | n + 1, .tup xs => xs.length < 100000 ∧ ∀ x ∈ xs, sok n x
  | _ + 1, _ => False
theorem y_sameD : ∀ (n : Nat) (d : D), sok n d → ∀ {K : Rv → List Sl → Prop}, K (.d (.bl true)) [.dat d, .dat d] → Y (GR_l_same n) [.dat d, .dat d] K NX := by
  intro n
  induction n with
  | zero => intro d h; exact h.elim
  | succ n ih =>
    intro d hs K h
    cases d with
    | int i => unfold GR_l_same B_l_same; walk_at "ys"; exact h
    | non => unfold GR_l_same B_l_same; walk_at "ys"; exact h
    | tup xs =>
      obtain ⟨hl, hx⟩ := hs
      unfold GR_l_same B_l_same
      walk_at "ys"
      refine ⟨by omega, ?_⟩
      refine Y_loop (I := fun r ρ => ∃ (i : Nat) (s : Sl), r = (rngD 0 (xs.length : Int).toNat).drop i ∧ i ≤ xs.length ∧ ρ = [.dat (.tup xs), .dat (.tup xs), s] ∧ canSet s = true) ⟨0, .un, rfl, Nat.zero_le _, rfl, rfl⟩ (fun x r ρ => ?_) (fun ρ => ?_)
      · rintro ⟨i, s, er, il, rfl, c⟩
        obtain ⟨hi, rfl, rfl⟩ := rngc_lt er
        have hi : i < xs.length := by omega
        have e : atI xs (0 + (i : Int)) = some xs[i] := by
          rw [Int.zero_add, at_lt i hi]
          exact List.getElem?_eq_getElem hi
        walk_at "ys"
        refine ⟨c, ?_⟩
        rw [e]
        walk_at "ys"
        refine ih _ (hx _ (List.getElem_mem hi)) ?_
        walk_at "ys"
        exact ⟨i + 1, _, rfl, hi, rfl, rfl⟩
      · rintro ⟨i, s, er, il, rfl, c⟩
        walk_at "ys"
        exact h
    | _ => exact hs.elim

theorem sok_kd (k : Int × Int) (n : Nat) : sok (n + 2) (kd k) := ⟨by simp, fun x hx => by simp at hx; rcases hx with e | e <;> (subst e; trivial)⟩
theorem y_unsound (s : Nat) (R : List Row) (a b : Int) (kk : List (Int × Int)) (k : Int × Int) (r : List (Int × Int)) (h1 : 1 ≤ a) (h2 : a < b) (h3 : b ≤ 12) (s5 : s ≤ 5) (hR : ∀ r ∈ R, r.2.2.1.length ≤ 1000) (hg : Gd 16 120 kk) (eb : bdK a b kk = k :: r) {K : Rv → List Sl → Prop}
    (h : K (.d (.bl true)) [.dat (La a b), .dat (Ci kk), .dat (.int s), .dat (Ha s R), .dat (kd k)]) : Y G_l_unsound [.dat (La a b), .dat (Ci kk), .dat (.int s), .dat (Ha s R), .dat (kd k)] K NX := by
  have sk := sok_kd k
  generalize hk : kd k = dk at h sk ⊢
  unfold G_l_unsound B_l_unsound
  rw [Y_run0]
  show Y _ [.dat (La a b), .dat (Ci kk), .dat (.int s), .dat (Ha s R), .dat dk, .un, .un, .un, .un, .un] _ _
  refine Y_cut (J := fun ρ => ρ = [.dat (La a b), .dat (Ci kk), .dat (.int s), .dat (Ha s R), .dat dk, .dat .non, .un, .un, .un, .un]) ?_ ?_
  · walk_at "ys"
  rintro _ rfl
  refine Y_cut (J := fun ρ => ρ = [.dat (La a b), .dat (Ci kk), .dat (.int s), .dat (Ha s R), .dat dk, .dat .non, .dat (.bl false), .un, .un, .un]) ?_ ?_
  · walk_at "ys"
  rintro _ rfl
  refine Y_cut (J := fun ρ => ρ = [.dat (La a b), .dat (Ci kk), .dat (.int s), .dat (Ha s R), .dat dk, .dat dk, .dat (.bl true), .un, .un, .un]) ?_ ?_
  · walk_at "ys"
    refine y_trap a b s kk h1 h2 h3 (by omega) hg (fun z => by rw [eb] at z; cases z) (fun k' r' e => ?_)
    rw [eb] at e
    obtain ⟨rfl, rfl⟩ := List.cons.inj e
    rw [hk]
    walk_at "ys"
    rfl
  rintro _ rfl
  refine Y_cut (J := fun ρ => ρ = [.dat (La a b), .dat (Ci kk), .dat (.int s), .dat (Ha s R), .dat dk, .dat dk, .dat (.bl true), .un, .un, .un]) ?_ ?_
  · walk_at "ys"
    refine y_sameD _ _ (sk _) ?_
    walk_at "ys"
  rintro _ rfl
  refine Y_cut (J := fun ρ => ρ = [.dat (La a b), .dat (Ci kk), .dat (.int s), .dat (Ha s R), .dat dk, .dat dk, .dat (.bl true), .un, .dat .non, .un]) ?_ ?_
  · walk_at "ys"
  rintro _ rfl
  refine Y_cut (J := fun ρ => ρ = [.dat (La a b), .dat (Ci kk), .dat (.int s), .dat (Ha s R), .dat dk, .dat dk, .dat (.bl true), .un, .dat .non, .dat (.bl false)]) ?_ ?_
  · walk_at "ys"
  rintro _ rfl
  refine Y_cut (J := fun ρ => ρ = [.dat (La a b), .dat (Ci kk), .dat (.int s), .dat (Ha s R), .dat dk, .dat dk, .dat (.bl true), .un, .dat dk, .dat (.bl true)]) ?_ ?_
  · walk_at "ys"
    refine y_trap_weather s R a b kk h1 h2 h3 s5 hR hg (fun z _ => by rw [eb] at z; cases z) (fun _ _ z _ _ => by rw [eb] at z; cases z) (fun k' r' e => ?_)
    rw [eb] at e
    obtain ⟨rfl, rfl⟩ := List.cons.inj e
    rw [hk]
    walk_at "ys"
    rfl
  rintro _ rfl
  walk_at "ys"
  refine y_sameD _ _ (sk _) ?_
  walk_at "ys"
  exact h

/-- rows of a habit with this sight -/
def RG (s : Nat) (R : List Row) : Prop := ∀ r ∈ R, 0 ≤ r.1 ∧ r.1 ≤ 8 ∧ 1 ≤ r.2.1 ∧ r.2.1 ≤ 8 ∧ r.2.2.1.length = s
theorem allT_fm (xs : List D) : xs.filterMap (fun _ => some (D.bl true)) = (xs.map fun _ => true).map D.bl := by
  induction xs with
  | nil => rfl
  | cons x xs ih => rw [List.filterMap_cons, ih]; rfl
theorem allT_all (xs : List D) : (xs.map fun _ => true).all id = true := by simp
theorem y_is_row (s : Nat) (ra rb : Int) (ms : List (Option Bool)) (lay : Bool) (h1 : 0 ≤ ra ∧ ra ≤ 8 ∧ 1 ≤ rb ∧ rb ≤ 8 ∧ ms.length = s) (s5 : s ≤ 1000) {K : Rv → List Sl → Prop} {X : XC} (h : K (.d (.bl true)) [.dat (rd (ra, rb, ms, lay)), .dat (.int s)]) : Y G_f_is_row [.dat (rd (ra, rb, ms, lay)), .dat (.int s)] K X := by
  have et : rd (ra, rb, ms, lay) = .tup [.int ra, .int rb, .str (mt ms), .bl lay] := rfl
  rw [et] at h ⊢
  unfold G_f_is_row B_f_is_row
  rw [Y_run0]
  show Y _ [.dat (.tup [.int ra, .int rb, .str (mt ms), .bl lay]), .dat (.int s), .un, .un, .un, .un, .un, .un] _ _
  refine Y_cut (J := fun ρ => ρ = [.dat (.tup [.int ra, .int rb, .str (mt ms), .bl lay]), .dat (.int s), .un, .un, .un, .un, .un, .un]) ?_ ?_
  · walk_at "ys"
    trivial
  rintro _ rfl
  refine Y_cut (J := fun ρ => ρ = [.dat (.tup [.int ra, .int rb, .str (mt ms), .bl lay]), .dat (.int s), .dat (.int ra), .dat (.int rb), .dat (.str (mt ms)), .dat (.bl lay), .un, .un]) ?_ ?_
  · walk_at "ys"
  rintro _ rfl
  refine Y_cut (J := fun ρ => ρ = [.dat (.tup [.int ra, .int rb, .str (mt ms), .bl lay]), .dat (.int s), .dat (.int ra), .dat (.int rb), .dat (.str (mt ms)), .dat (.bl lay), .dat (.bl true), .un]) ?_ ?_
  · walk_at "ys"
    rw [mt_len]
    refine ⟨by omega, ?_⟩
    rw [if_pos (by omega)]
    refine ⟨ms.map fun m => .str (mt [m]), by rw [show (D.str (mt ms)).sitems = some (chars (mt ms)) from rfl, mt_chars], ?_⟩
    refine Y_lcGo (f := fun _ => some (.bl true)) (ρ0 := [.dat (.tup [.int ra, .int rb, .str (mt ms), .bl lay]), .dat (.int s), .dat (.int ra), .dat (.int rb), .dat (.str (mt ms)), .dat (.bl lay), .un, .un]) (P := fun x => ∃ m, x = .str (mt [m])) (fun x acc ⟨m, e⟩ hl => ?_) _ _ (fun x hx => ?_) ?_ ?_
    · subst e
      walk_at "ys"
      rw [in_three]
      exact ⟨_, rfl, rfl⟩
    · obtain ⟨m, _, e⟩ := List.mem_map.mp hx
      exact ⟨m, e.symm⟩
    · rw [List.length_map]
      show 0 + _ ≤ _
      omega
    · rw [List.nil_append, allT_fm]
      walk_at "ys"
      rw [gAll_b, allT_all]
      exact ⟨_, rfl, rfl⟩
  rintro _ rfl
  walk_at "ys"
  rw [if_pos h1.1, if_pos h1.2.1, if_pos h1.2.2.1, if_pos h1.2.2.2.1]
  split
  · exact h
  · rename_i c
    rw [show (!lay) = true by simpa using c]
    exact h
theorem y_habit (s : Nat) (R : List Row) (s5 : s ≤ 5) (hR : RG s R) (hl : R.length ≤ 40) {K : Rv → List Sl → Prop} {X : XC} (h : K (.d .non) [.cel .par (.obj .Habit [("sight", .int s), ("rows", .tup (R.map rd))]), .dat (.int s), .dat (.lst (R.map rd))]) : Y G_Habit_init [.cel .par (.obj .Habit []), .dat (.int s), .dat (.lst (R.map rd))] K X := by
  unfold G_Habit_init B_Habit_init
  walk_at "ys"
  rw [if_pos (by omega), if_neg (by omega), if_neg (by omega)]
  refine Y_lcGo (f := fun _ => some (.bl true)) (ρ0 := [.cel .par (.obj .Habit []), .dat (.int s), .dat (.lst (R.map rd)), .un]) (P := fun x => ∃ r ∈ R, x = rd r) (fun x acc ⟨r, hr, e⟩ hl => ?_) _ _ (fun x hx => ?_) ?_ ?_
  · subst e
    obtain ⟨ra, rb, ms, lay⟩ := r
    walk_at "ys"
    refine y_is_row s ra rb ms lay (hR _ hr) (by omega) ?_
    walk_at "ys"
  · obtain ⟨m, hm, e⟩ := List.mem_map.mp hx
    exact ⟨m, hm, e.symm⟩
  · rw [List.length_map]
    show 0 + _ ≤ _
    omega
  · rw [List.nil_append, allT_fm]
    walk_at "ys"
    rw [gAll_b, allT_all]
    refine ⟨_, rfl, ?_⟩
    walk_at "ys"
    exact ⟨by decide, by decide, h⟩
theorem y_eager (s : Nat) (s5 : s ≤ 5) {K : Rv → List Sl → Prop} (h : K (.c (.obj .Habit [("sight", .int s), ("rows", .tup [])])) [.dat (.int s)]) : Y G_Habit_eager [.dat (.int s)] K NX := by
  unfold G_Habit_eager B_Habit_eager
  walk_at "ys"
  refine y_habit s [] s5 (fun r hr => by cases hr) (by simp) ?_
  walk_at "ys"
  exact h
theorem q4_eq : (((".#??" : String) : Str)) = mt [some false, some true, none, none] := by decide +kernel
theorem q4 (e : Int) (h0 : 0 ≤ e) (h4 : e < 4) : ∃ m, dIx (.str ".#??") (.int e) = some (.str (mt [m])) := by
  (obtain ⟨n, rfl⟩ := Int.eq_ofNat_of_zero_le h0)
  rw [q4_eq]
  exact ⟨_, mt_ix (by simp; omega) (by simp)⟩
theorem mt_mapj (ms : List (Option Bool)) : (ms.map fun m => [m]).flatten = ms := by
  induction ms with
  | nil => rfl
  | cons m ms ih => rw [List.map_cons, List.flatten_cons, ih]; rfl
theorem dJoin_mt (ms : List (Option Bool)) (hl : ms.length ≤ 1000) : dJoin (sg []) (.lst ((ms.map fun m => mt [m]).map D.str)) = some (.str (mt ms)) := by
  unfold dJoin
  simp only [D.items, Option.bind_some, D.strs_map]
  have e1 : (sg []).length = 0 := rfl
  have e2 : ((ms.map fun m => mt [m]).map (·.length)).sum = ms.length := by
    clear hl
    induction ms with
    | nil => rfl
    | cons m ms ih =>
      rw [List.map_cons, List.map_cons, List.sum_cons, ih, mt_len, List.length_cons]
      simp
      omega
  rw [e1, e2, if_pos (by omega)]
  have := mt_join (ms.map fun m => [m])
  rw [List.map_map, mt_mapj] at this
  exact congrArg (fun s => some (D.str s)) this
theorem RG.nil {s : Nat} : RG s [] := fun r hr => by cases hr
theorem RG.snoc {s : Nat} {R : List Row} {ra rb : Int} {ms : List (Option Bool)} {lay : Bool} (h : RG s R) (q : 0 ≤ ra ∧ ra ≤ 8 ∧ 1 ≤ rb ∧ rb ≤ 8 ∧ ms.length = s) : RG s (R ++ [(ra, rb, ms, lay)]) := fun r hr => by
  rcases List.mem_append.mp hr with z | z
  · exact h r z
  · simp at z
    subst z
    exact q
theorem y_rows (x y z : Int) (s : Nat) (s5 : s ≤ 5) {K : Rv → List Sl → Prop} (h : ∀ (R : List Row) (x' y' z' : Int), RG s R → R.length ≤ 5 → K (.c (.lst (R.map rd))) [Po x' y' z', .dat (.int s)]) : Y G_l_rows [Po x y z, .dat (.int s)] K NX := by
  unfold G_l_rows B_l_rows
  walk_at "ys"
  refine y_take _ _ _ _ (by omega) (by omega) fun d x1 y1 z1 d1 d2 => ?_
  walk_at "ys"
  refine ⟨by omega, ?_⟩
  refine Y_loop (I := fun r ρ => ∃ (i : Nat) (R : List Row) (x y z : Int) (s3 s4 s5 s6 : Sl), r = (rngD 0 d.toNat).drop i ∧ i ≤ d.toNat ∧ RG s R ∧ R.length = i ∧ canSet s3 = true ∧ canSet s4 = true ∧ canSet s5 = true ∧ canSet s6 = true ∧ ρ = [Po x y z, .dat (.int s), .cel .own (.lst (R.map rd)), s3, s4, s5, s6, .un])
    ⟨0, [], _, _, _, .un, .un, .un, .un, rfl, Nat.zero_le _, RG.nil, rfl, rfl, rfl, rfl, rfl, rfl⟩ (fun q r ρ => ?_) (fun ρ => ?_)
  · rintro ⟨i, R, x, y, z, s3, s4, s5, s6, er, il, hR, hl, c3, c4, c5, c6, rfl⟩
    obtain ⟨hi, rfl, rfl⟩ := rngc_lt er
    refine Y_tgN rfl c3 ?_
    refine Y_cut (J := fun ρ => ∃ ra x y z : Int, 0 ≤ ra ∧ ra ≤ 8 ∧ ρ = [Po x y z, .dat (.int s), .cel .own (.lst (R.map rd)), .dat (.int (0 + (i : Int))), .dat (.int ra), s5, s6, .un]) ?_ ?_
    · walk_at "ys"
      refine y_take _ _ _ _ (by omega) (by omega) fun v x1 y1 z1 v1 v2 => ?_
      obtain rfl | rfl | rfl : v = 0 ∨ v = 1 ∨ v = 2 := by omega
      all_goals
        walk_at "ys"
        refine y_take _ _ _ _ (by omega) (by omega) fun u x1 y1 z1 u1 u2 => ?_
        walk_at "ys"
        exact ⟨c4, u, _, _, _, by omega, by omega, rfl⟩
    rintro _ ⟨ra, x, y, z, ra1, ra2, rfl⟩
    refine Y_cut (J := fun ρ => ∃ rb x y z : Int, 1 ≤ rb ∧ rb ≤ 8 ∧ ρ = [Po x y z, .dat (.int s), .cel .own (.lst (R.map rd)), .dat (.int (0 + (i : Int))), .dat (.int ra), .dat (.int rb), s6, .un]) ?_ ?_
    · walk_at "ys"
      refine y_take _ _ _ _ (by omega) (by omega) fun v x1 y1 z1 v1 v2 => ?_
      obtain rfl | rfl | rfl : v = 0 ∨ v = 1 ∨ v = 2 := by omega
      all_goals
        walk_at "ys"
        refine y_take _ _ _ _ (by omega) (by omega) fun u x1 y1 z1 u1 u2 => ?_
        walk_at "ys"
        exact ⟨c5, 1 + u, _, _, _, by omega, by omega, rfl⟩
    rintro _ ⟨rb, x, y, z, rb1, rb2, rfl⟩
    refine Y_cut (J := fun ρ => ∃ (ms : List (Option Bool)) (x y z : Int), ms.length = s ∧ ρ = [Po x y z, .dat (.int s), .cel .own (.lst (R.map rd)), .dat (.int (0 + (i : Int))), .dat (.int ra), .dat (.int rb), .dat (.str (mt ms)), .un]) ?_ ?_
    · walk_at "ys"
      refine ⟨by omega, ?_⟩
      rw [Int.toNat_natCast]
      refine Y_lcI (I := fun r acc ρ => ∃ (ms : List (Option Bool)) (x y z : Int), acc = (ms.map fun m => mt [m]).map D.str ∧ ms.length + r.length = s ∧ ρ = [Po x y z, .dat (.int s), .cel .own (.lst (R.map rd)), .dat (.int (0 + (i : Int))), .dat (.int ra), .dat (.int rb), s6, .un]) ⟨[], _, _, _, rfl, by rw [rng_len]; simp, rfl⟩ (fun o r acc ρ => ?_) (fun acc ρ => ?_)
      · rintro ⟨ms, x, y, z, rfl, ml, rfl⟩
        rw [List.length_cons] at ml
        refine ⟨by rw [List.length_map, List.length_map]; omega, ?_⟩
        walk_at "ys"
        refine y_take _ _ _ _ (by omega) (by omega) fun v x1 y1 z1 v1 v2 => ?_
        obtain ⟨m, em⟩ := q4 v v1 v2
        refine ⟨.str (mt [m]), em, ms ++ [m], x1, y1, z1, by simp, by simp; omega, rfl⟩
      · rintro ⟨ms, x, y, z, rfl, ml, rfl⟩
        walk_at "ys"
        have ml : ms.length = s := by simpa using ml
        exact ⟨_, dJoin_mt ms (by omega), c6, ms, _, _, _, ml, rfl⟩
    rintro _ ⟨ms, x, y, z, ml, rfl⟩
    walk_at "ys"
    refine y_take _ _ _ _ (by omega) (by omega) fun v x1 y1 z1 v1 v2 => ?_
    walk_at "ys"
    refine ⟨by omega, i + 1, R ++ [(ra, rb, ms, decide (v = 2))], x1, y1, z1, .dat (.int (0 + (i : Int))), .dat (.int ra), .dat (.int rb), .dat (.str (mt ms)), rfl, hi, hR.snoc ⟨ra1, ra2, rb1, rb2, ml⟩, by simp; omega, rfl, rfl, rfl, rfl, ?_⟩
    rw [List.map_append]
    rfl
  · rintro ⟨i, R, x, y, z, s3, s4, s5, s6, er, il, hR, hl, c3, c4, c5, c6, rfl⟩
    have := rngc_ge er
    walk_at "ys"
    exact h R _ _ _ hR (by omega)

theorem kl_insJ (ks : List (Int × Int)) (i : Nat) (w g : Int) : (kl ks).take i ++ [.tup [.int w, .int g]] ++ (kl ks).drop i = kl (ks.take i ++ [(w, g)] ++ ks.drop i) := by
  unfold kl
  simp [kd]
theorem fIns_kl {ks : List (Int × Int)} {i w g : Int} (hl : ks.length ≤ 1000) (i0 : 0 ≤ i) (i1 : i ≤ 1000) : fIns (kl ks) [.int i, .tup [.int w, .int g]] = some (.non, kl (ks.take i.toNat ++ [(w, g)] ++ ks.drop i.toNat)) := by
  show (if (kl ks).length < 16777216 ∧ 0 ≤ i ∧ i < 2 ^ 63 then _ else _) = _
  rw [if_pos (by rw [kl_len]; omega), kl_insJ]

theorem Gd.ins {p n : Int} {ks : List (Int × Int)} {w g : Int} (h : Gd p n ks) (i : Nat) (a : 1 ≤ w ∧ w ≤ p ∧ 1 ≤ g ∧ g ≤ n) : Gd p n (ks.take i ++ [(w, g)] ++ ks.drop i) := by
  intro k hk
  rcases List.mem_append.mp hk with q | q
  · (rcases List.mem_append.mp q with q | q)
    · exact h k (List.mem_of_mem_take q)
    · simp at q
      subst q
      exact a
  · exact h k (List.mem_of_mem_drop q)
theorem ins_len {α : Type} (ks : List α) (x : α) (i : Nat) : (ks.take i ++ [x] ++ ks.drop i).length = ks.length + 1 := by
  rw [List.length_append, List.length_append, List.length_take, List.length_drop, List.length_singleton]
  omega
theorem y_steep (x y z a b p n : Int) (h1 : 1 ≤ a) (h2 : a < b) (h3 : b ≤ 12) (p1 : 1 ≤ p) (p2 : p ≤ 16) (n1 : 1 ≤ n) (n2 : n ≤ 120) {K : Rv → List Sl → Prop}
    (h : ∀ w g x' y' z' : Int, 1 ≤ w ∧ w ≤ 16 ∧ 1 ≤ g ∧ g ≤ 120 → K (.d (.tup [.int w, .int g])) [Po x' y' z', .dat (.tup [.int a, .int b]), .dat (.int p), .dat (.int n)]) : Y G_l_steep [Po x y z, .dat (.tup [.int a, .int b]), .dat (.int p), .dat (.int n)] K NX := by
  have q0 : 0 ≤ (n - 1) / a := Int.ediv_nonneg (by omega) (by omega)
  have q1 := Int.mul_le_mul_of_nonneg_right (show 1 ≤ (n - 1) / a + 1 by omega) (by omega : 0 ≤ b - a)
  unfold G_l_steep B_l_steep
  rw [Y_run0]
  show Y _ [Po x y z, .dat (.tup [.int a, .int b]), .dat (.int p), .dat (.int n), .un, .un, .un, .un] _ _
  refine Y_cut (J := fun ρ => ρ = [Po x y z, .dat (.tup [.int a, .int b]), .dat (.int p), .dat (.int n), .dat (.int (b - a)), .un, .un, .un]) ?_ ?_
  · walk_at "ys"
  rintro _ rfl
  refine Y_cut (J := fun ρ => ∃ t, (1 ≤ t ∧ t ≤ p ∧ t ≤ b - 1 ∧ t ≤ ((n - 1) / a + 1) * (b - a)) ∧ ρ = [Po x y z, .dat (.tup [.int a, .int b]), .dat (.int p), .dat (.int n), .dat (.int (b - a)), .dat (.int t), .un, .un]) ?_ ?_
  · walk_at "ys"
    refine ⟨dOk (by omega) (by omega), mOkR (by omega), ?_⟩
    generalize ((n - 1) / a + 1) * (b - a) = q at q1
    exact ⟨_, by omega, rfl⟩
  rintro _ ⟨t, ⟨t1, t2, t3, t4⟩, rfl⟩
  refine Y_cut (J := fun ρ => ρ = [Po x y z, .dat (.tup [.int a, .int b]), .dat (.int p), .dat (.int n), .dat (.int (b - a)), .dat (.int t), .dat (.int t), .un]) ?_ ?_
  · walk_at "ys"
  rintro _ rfl
  refine Y_cut (J := fun ρ => ∃ w x y z : Int, 1 ≤ w ∧ w ≤ t ∧ ρ = [Po x y z, .dat (.tup [.int a, .int b]), .dat (.int p), .dat (.int n), .dat (.int (b - a)), .dat (.int t), .dat (.int w), .un]) ?_ ?_
  · walk_at "ys"
    split
    · refine y_take _ _ _ _ (by omega) (by omega) fun u x1 y1 z1 u1 u2 => ?_
      walk_at "ys"
      exact ⟨_, _, _, _, by omega, by omega, rfl⟩
    · exact ⟨t, _, _, _, t1, Int.le_refl _, rfl⟩
  rintro _ ⟨w, x, y, z, w1, w2, rfl⟩
  have near := ld_near h1 h2 w1 n1 (by omega)
  refine Y_cut (J := fun ρ => ρ = [Po x y z, .dat (.tup [.int a, .int b]), .dat (.int p), .dat (.int n), .dat (.int (b - a)), .dat (.int t), .dat (.int w), .dat (.int (ld a b w))]) ?_ ?_
  · walk_at "ys"
    refine y_leadL a b w h1 h2 h3 ?_
    walk_at "ys"
  rintro _ rfl
  walk_at "ys"
  refine y_take _ _ _ _ (by omega) (by omega) fun u x1 y1 z1 u1 u2 => ?_
  walk_at "ys"
  exact h _ _ _ _ _ (by omega)
theorem y_bad (x y z a b n : Int) (h1 : 1 ≤ a) (h2 : a < b) (h3 : b ≤ 12) (n1 : 1 ≤ n) (n2 : n ≤ 120) {K : Rv → List Sl → Prop}
    (h : ∀ w g x' y' z' : Int, 1 ≤ w ∧ w ≤ 16 ∧ 1 ≤ g ∧ g ≤ 120 → K (.d (.tup [.int w, .int g])) [Po x' y' z', .dat (.tup [.int a, .int b]), .dat (.int n)]) : Y G_l_bad [Po x y z, .dat (.tup [.int a, .int b]), .dat (.int n)] K NX := by
  unfold G_l_bad B_l_bad
  walk_at "ys"
  refine y_take _ _ _ _ (by omega) (by omega) fun w x1 y1 z1 w1 w2 => ?_
  walk_at "ys"
  refine y_leadL a b _ h1 h2 h3 ?_
  walk_at "ys"
  repeat' split
  · refine y_take _ _ _ _ (by omega) (by omega) fun u x1 y1 z1 u1 u2 => ?_
    walk_at "ys"
    exact h _ _ _ _ _ (by omega)
  all_goals
    refine y_take _ _ _ _ (by omega) (by omega) fun u x1 y1 z1 u1 u2 => ?_
    walk_at "ys"
    refine y_take _ _ _ _ (by omega) (by omega) fun v x1 y1 z1 v1 v2 => ?_
    walk_at "ys"
    exact h _ _ _ _ _ (by omega)
theorem y_case (x y z : Int) {K : Rv → List Sl → Prop}
    (h : ∀ (a b : Int) (ks : List (Int × Int)) (s : Nat) (R : List Row) (x' y' z' : Int), 1 ≤ a → a < b → b ≤ 12 → Gd 16 120 ks → ks.length ≤ 20 → s ≤ 5 → RG s R → R.length ≤ 5 → K (.d (.tup [.tup [.int a, .int b], .lst (kl ks), .int s, .lst (R.map rd)])) [Po x' y' z']) : Y G_l_case [Po x y z] K NX := by
  unfold G_l_case B_l_case
  rw [Y_run0]
  show Y _ [Po x y z, .un, .un, .un, .un, .un, .un, .un, .un, .un, .un] _ _
  refine Y_cut (J := fun ρ => ∃ l x y z : Int, (l = 0 ∨ l = 1) ∧ ρ = [Po x y z, .dat (.int l), .un, .un, .un, .un, .un, .un, .un, .un, .un]) ?_ ?_
  · walk_at "ys"
    refine y_take _ _ _ _ (by omega) (by omega) fun d x1 y1 z1 d1 d2 => ?_
    walk_at "ys"
    exact ⟨if d = 5 then 1 else 0, x1, y1, z1, by split <;> simp, rfl⟩
  rintro _ ⟨l, x, y, z, hl, rfl⟩
  refine Y_cut (J := fun ρ => ∃ m : Int, 6 ≤ m ∧ m ≤ 12 ∧ ρ = [Po x y z, .dat (.int l), .dat (.int m), .un, .un, .un, .un, .un, .un, .un, .un]) ?_ ?_
  · walk_at "ys"
    exact ⟨mOkL (by omega), _, by omega, by omega, rfl⟩
  rintro _ ⟨m, m1, m2, rfl⟩
  refine Y_cut (J := fun ρ => ∃ p : Int, 1 ≤ p ∧ p ≤ 16 ∧ ρ = [Po x y z, .dat (.int l), .dat (.int m), .dat (.int p), .un, .un, .un, .un, .un, .un, .un]) ?_ ?_
  · walk_at "ys"
    exact ⟨mOkL (by omega), _, by omega, by omega, rfl⟩
  rintro _ ⟨p, p1, p2, rfl⟩
  refine Y_cut (J := fun ρ => ∃ n : Int, 1 ≤ n ∧ n ≤ 120 ∧ ρ = [Po x y z, .dat (.int l), .dat (.int m), .dat (.int p), .dat (.int n), .un, .un, .un, .un, .un, .un]) ?_ ?_
  · walk_at "ys"
    exact ⟨mOkL (by omega), _, by omega, by omega, rfl⟩
  rintro _ ⟨n, n1, n2, rfl⟩
  clear hl
  refine Y_cut (J := fun ρ => ∃ a x y z : Int, 1 ≤ a ∧ a < m ∧ ρ = [Po x y z, .dat (.int l), .dat (.int m), .dat (.int p), .dat (.int n), .dat (.int a), .un, .un, .un, .un, .un]) ?_ ?_
  · walk_at "ys"
    refine y_take _ _ _ _ (by omega) (by omega) fun d x1 y1 z1 d1 d2 => ?_
    walk_at "ys"
    exact ⟨_, _, _, _, by omega, by omega, rfl⟩
  rintro _ ⟨a, x, y, z, a1, a2, rfl⟩
  refine Y_cut (J := fun ρ => ∃ a x y z : Int, 1 ≤ a ∧ a < m ∧ ρ = [Po x y z, .dat (.int l), .dat (.int m), .dat (.int p), .dat (.int n), .dat (.int a), .un, .un, .un, .un, .un]) ?_ ?_
  · walk_at "ys"
    refine y_take _ _ _ _ (by omega) (by omega) fun d x1 y1 z1 d1 d2 => ?_
    walk_at "ys"
    split
    · exact ⟨_, _, _, _, by omega, by omega, rfl⟩
    · exact ⟨_, _, _, _, a1, a2, rfl⟩
  rintro _ ⟨a, x, y, z, a1, a2, rfl⟩
  refine Y_cut (J := fun ρ => ∃ b x y z : Int, a < b ∧ b ≤ 12 ∧ ρ = [Po x y z, .dat (.int l), .dat (.int m), .dat (.int p), .dat (.int n), .dat (.int a), .dat (.tup [.int a, .int b]), .un, .un, .un, .un]) ?_ ?_
  · walk_at "ys"
    refine y_take _ _ _ _ (by omega) (by omega) fun d x1 y1 z1 d1 d2 => ?_
    walk_at "ys"
    exact ⟨_, _, _, _, by omega, by omega, rfl⟩
  rintro _ ⟨b, x, y, z, h2, h3, rfl⟩
  refine Y_cut (J := fun ρ => ∃ (ks : List (Int × Int)) (x y z : Int), Gd 16 120 ks ∧ ks.length ≤ 12 ∧ ρ = [Po x y z, .dat (.int l), .dat (.int m), .dat (.int p), .dat (.int n), .dat (.int a), .dat (.tup [.int a, .int b]), .cel .own (.lst (kl ks)), .un, .un, .un]) ?_ ?_
  · walk_at "ys"
    refine y_sound_kinds _ _ _ a b 2 p n a1 h2 h3 (by omega) (by omega) p1 p2 n1 n2 fun ks x1 y1 z1 g1 g2 g3 => ?_
    walk_at "ys"
    exact ⟨ks, _, _, _, g1, g3, rfl⟩
  rintro _ ⟨ks, x, y, z, hg, hl, rfl⟩
  refine Y_cut (J := fun ρ => ∃ (ks : List (Int × Int)) (x y z : Int), Gd 16 120 ks ∧ ks.length ≤ 13 ∧ ρ = [Po x y z, .dat (.int l), .dat (.int m), .dat (.int p), .dat (.int n), .dat (.int a), .dat (.tup [.int a, .int b]), .cel .own (.lst (kl ks)), .un, .un, .un]) ?_ ?_
  · walk_at "ys"
    rw [kl_len]
    refine y_take _ _ _ _ (by omega) (by omega) fun d x1 y1 z1 d1 d2 => ?_
    walk_at "ys"
    refine y_steep _ _ _ a b p n a1 h2 h3 p1 p2 n1 n2 fun w g x1 y1 z1 wg => ?_
    walk_at "ys"
    refine ⟨_, fIns_kl (by omega) d1 (by omega), ?_⟩
    exact ⟨_, _, _, _, hg.ins _ wg, by rw [ins_len]; omega, rfl⟩
  clear hg hl ks
  rintro _ ⟨ks, x, y, z, hg, hl, rfl⟩
  refine Y_cut (J := fun ρ => ρ = [Po x y z, .dat (.int l), .dat (.int m), .dat (.int p), .dat (.int n), .dat (.int a), .dat (.tup [.int a, .int b]), .cel .own (.lst (kl ks)), .dat (.int (hdL a b ks)), .un, .un]) ?_ ?_
  · walk_at "ys"
    refine y_headL a b ks a1 h2 h3 ?_
    walk_at "ys"
  rintro _ rfl
  have hd0 : 0 ≤ hdL a b ks := (hdL_ge (a := a) (b := b) ks 0).1
  generalize hdL a b ks = H at *
  refine Y_cut (J := fun ρ => ∃ s x y z : Int, 0 ≤ s ∧ s ≤ 5 ∧ ρ = [Po x y z, .dat (.int l), .dat (.int m), .dat (.int p), .dat (.int n), .dat (.int a), .dat (.tup [.int a, .int b]), .cel .own (.lst (kl ks)), .dat (.int H), .dat (.int s), .un]) ?_ ?_
  · walk_at "ys"
    refine y_take _ _ _ _ (by omega) (by omega) fun d x1 y1 z1 d1 d2 => ?_
    walk_at "ys"
    exact ⟨_, _, _, _, by omega, by omega, rfl⟩
  rintro _ ⟨s, x, y, z, s0, s5, rfl⟩
  refine Y_cut (J := fun ρ => ∃ s x y z : Int, 0 ≤ s ∧ s ≤ 5 ∧ ρ = [Po x y z, .dat (.int l), .dat (.int m), .dat (.int p), .dat (.int n), .dat (.int a), .dat (.tup [.int a, .int b]), .cel .own (.lst (kl ks)), .dat (.int H), .dat (.int s), .un]) ?_ ?_
  · walk_at "ys"
    refine y_take _ _ _ _ (by omega) (by omega) fun d x1 y1 z1 d1 d2 => ?_
    walk_at "ys"
    split
    · refine y_take _ _ _ _ (by omega) (by omega) fun d x1 y1 z1 d1 d2 => ?_
      walk_at "ys"
      exact ⟨_, _, _, _, by omega, by omega, rfl⟩
    · exact ⟨_, _, _, _, s0, s5, rfl⟩
  clear s0 s5 s
  rintro _ ⟨s, x, y, z, s0, s5, rfl⟩
  obtain ⟨s, rfl⟩ := Int.eq_ofNat_of_zero_le s0
  refine Y_cut (J := fun ρ => ∃ (R : List Row) (x y z : Int), RG s R ∧ R.length ≤ 5 ∧ ρ = [Po x y z, .dat (.int l), .dat (.int m), .dat (.int p), .dat (.int n), .dat (.int a), .dat (.tup [.int a, .int b]), .cel .own (.lst (kl ks)), .dat (.int H), .dat (.int s), .dat (.lst (R.map rd))]) ?_ ?_
  · walk_at "ys"
    refine y_rows _ _ _ s (by omega) fun R x1 y1 z1 r1 r2 => ?_
    walk_at "ys"
    exact ⟨R, _, _, _, r1, r2, rfl⟩
  rintro _ ⟨R, x, y, z, r1, r2, rfl⟩
  generalize hw : D.lst (R.map rd) = dw at *
  refine Y_cut (J := fun ρ => ∃ (ks : List (Int × Int)) (x y z : Int), Gd 16 120 ks ∧ ks.length ≤ 14 ∧ ρ = [Po x y z, .dat (.int l), .dat (.int m), .dat (.int p), .dat (.int n), .dat (.int a), .dat (.tup [.int a, .int b]), .cel .own (.lst (kl ks)), .dat (.int H), .dat (.int s), .dat dw]) ?_ ?_
  · walk_at "ys"
    refine y_take _ _ _ _ (by omega) (by omega) fun d x1 y1 z1 d1 d2 => ?_
    walk_at "ys"
    split
    · rw [kl_len]
      refine y_take _ _ _ _ (by omega) (by omega) fun d x1 y1 z1 d1 d2 => ?_
      walk_at "ys"
      refine y_bad _ _ _ a b n a1 h2 h3 n1 n2 fun w g x1 y1 z1 wg => ?_
      walk_at "ys"
      refine ⟨_, fIns_kl (by omega) d1 (by omega), ?_⟩
      exact ⟨_, _, _, _, hg.ins _ wg, by rw [ins_len]; omega, rfl⟩
    · exact ⟨ks, _, _, _, hg, by omega, rfl⟩
  clear hg hl ks
  rintro _ ⟨ks, x, y, z, hg, hl, rfl⟩
  walk_at "ys"
  rw [← hw]
  exact h a b ks s R _ _ _ a1 h2 h3 hg (by omega) (by omega) r1 r2

def kp (k : Int × Int) : PyData := .tuple [.int k.1, .int k.2]
theorem pys_kl : ∀ ks : List (Int × Int), D.pys (kl ks) = some (ks.map kp)
  | [] => rfl
  | k :: ks => by
    have := pys_kl ks
    rw [show kl (k :: ks) = kd k :: kl ks from rfl, D.pys, this]
    rfl
theorem lay_kp : ∀ ks : List (Int × Int), PyData.canLayAll0 (ks.map kp) = true
  | [] => rfl
  | k :: ks => by
    have := lay_kp ks
    rw [List.map_cons, PyData.canLayAll0, this]
    rfl
theorem dep_kp : ∀ ks : List (Int × Int), PyData.depthAll (ks.map kp) ≤ 1
  | [] => by decide
  | k :: ks => by
    have := dep_kp ks
    (rw [List.map_cons, PyData.depthAll])
    exact Nat.max_le.mpr ⟨by show max 0 (max 0 0) + 1 ≤ 1; decide, this⟩
theorem eqK_refl (ks : List (Int × Int)) : D.eq? (.lst (kl ks)) (.lst (kl ks)) = some true := by
  have e : D.py (.lst (kl ks)) = some (.list (ks.map kp)) := by rw [D.py, pys_kl]; rfl
  have h0 : PyData.canLay0 (.list (ks.map kp)) = true := by rw [PyData.canLay0]; exact lay_kp ks
  have h1 : SeqAt.shaped (.list (ks.map kp)) = true := by
    have := dep_kp ks
    unfold SeqAt.shaped
    rw [h0, PyData.depth, Bool.true_and, decide_eq_true (by omega)]
  show (match D.py (.lst (kl ks)), D.py (.lst (kl ks)) with
    | some x, some y => if SeqAt.shaped x && SeqAt.shaped y then some (PyData.eqv x y) else none
    | _, _ => none) = _
  rw [e]
  simp [h1, SeqAt.eqv_refl _ h0]

def badN (a b : Int) (x : D) : Option D := match x with | .tup [.int w, .int q] => if sk a b (w, q) = true then none else some (.tup [.int w, .int q]) | _ => none
theorem badN_fm {a b : Int} {ms : List (Int × Int)} : (kl ms).filterMap (badN a b) = kl (ms.filter fun k => !sk a b k) := by
  induction ms with
  | nil => rfl
  | cons k ms ih =>
    obtain ⟨w, q⟩ := k
    rw [kl_consT, List.filterMap_cons]
    have e : badN a b (kd (w, q)) = if sk a b (w, q) = true then none else some (kd (w, q)) := rfl
    rw [e]
    cases hs : sk a b (w, q)
    · rw [List.filter_cons_of_pos (by rw [hs]; rfl), kl_consT, ← ih]
      rfl
    · rw [List.filter_cons_of_neg (by rw [hs]; simp), ← ih]
      rfl
theorem flt_sk {a b w g : Int} : (flt a b w g = sg []) ↔ sk a b (w, g) = true := by
  unfold flt sk
  rw [← sg_nil]
  by_cases c : b ≤ w
  · rw [if_pos c]
    (simp only [Bool.and_eq_true, decide_eq_true_eq])
    exact ⟨fun e => absurd e (by decide +kernel), fun e => by omega⟩
  · rw [if_neg c]
    (simp only [Bool.and_eq_true, decide_eq_true_eq])
    by_cases d : g ≤ ld a b w
    · rw [if_pos d]
      exact ⟨fun e => absurd e (by decide +kernel), fun e => by omega⟩
    · rw [if_neg d]
      exact ⟨fun _ => by omega, fun _ => rfl⟩
theorem sok_trT {a b L : Int} {ps : List (Int × Int)} : sok 4 (trT a b ps L) := by
  unfold trT
  cases trF a b ps L with
  | nil => trivial
  | cons k r => exact ⟨by simp, fun x hx => by simp at hx; rcases hx with e | e | e <;> (subst e; trivial)⟩
theorem sok_trD {a b L s : Int} {ps : List (Int × Int)} : sok 4 (trD a b ps L s) := by
  unfold trD
  split
  · trivial
  · exact sok_trT
theorem y_law (ns : List Int) {K : Rv → List Sl → Prop} (h : ∀ ρ, K (.d (.bl true)) ρ) : Y G_l_law [.dat (.sq (ns.map D.int))] K NX := by
  unfold G_l_law B_l_law
  rw [Y_run0]
  show Y _ [_, .un, .un, .un, .un, .un, .un, .un, .un, .un, .un, .un, .un, .un, .un, .un, .un, .un] _ _
  refine Y_cut (J := fun ρ => ∃ (a b : Int) (ks : List (Int × Int)) (s : Nat) (R : List Row), (1 ≤ a ∧ a < b ∧ b ≤ 12 ∧ Gd 16 120 ks ∧ ks.length ≤ 20 ∧ s ≤ 5 ∧ RG s R ∧ R.length ≤ 5) ∧ ρ = [.dat (.sq (ns.map D.int)), .dat (.tup [.tup [.int a, .int b], .lst (kl ks), .int s, .lst (R.map rd)]), .un, .un, .un, .un, .un, .un, .un, .un, .un, .un, .un, .un, .un, .un, .un, .un]) ?_ ?_
  · walk_at "ys"
    refine y_cell ns 0 (by omega) fun c => ?_
    walk_at "ys"
    refine y_pool c fun x y z => ?_
    walk_at "ys"
    refine y_case x y z fun a b ks s R x1 y1 z1 p1 p2 p3 p4 p5 p6 p7 p8 => ?_
    walk_at "ys"
    exact ⟨a, b, ks, s, R, ⟨p1, p2, p3, p4, p5, p6, p7, p8⟩, rfl⟩
  rintro _ ⟨a, b, ks, s, R, ⟨h1, h2, h3, hg, hkl, s5, hR, hRl⟩, rfl⟩
  have hR1 : ∀ r ∈ R, r.2.2.1.length = s := fun r hr => (hR r hr).2.2.2.2
  have hR2 : ∀ r ∈ R, r.2.2.1.length ≤ 1000 := fun r hr => by rw [hR1 r hr]; omega
  have gp := pl_gd hg
  refine Y_cut (J := fun ρ => ρ = [.dat (.sq (ns.map D.int)), .dat (.tup [.tup [.int a, .int b], .lst (kl ks), .int s, .lst (R.map rd)]), .dat (.tup [.int a, .int b]), .un, .un, .un, .un, .un, .un, .un, .un, .un, .un, .un, .un, .un, .un, .un]) ?_ ?_
  · walk_at "ys"
  rintro _ rfl
  refine Y_cut (J := fun ρ => ρ = [.dat (.sq (ns.map D.int)), .dat (.tup [.tup [.int a, .int b], .lst (kl ks), .int s, .lst (R.map rd)]), .dat (.tup [.int a, .int b]), .dat (.lst (kl ks)), .un, .un, .un, .un, .un, .un, .un, .un, .un, .un, .un, .un, .un, .un]) ?_ ?_
  · walk_at "ys"
  rintro _ rfl
  refine Y_cut (J := fun ρ => ρ = [.dat (.sq (ns.map D.int)), .dat (.tup [.tup [.int a, .int b], .lst (kl ks), .int s, .lst (R.map rd)]), .dat (.tup [.int a, .int b]), .dat (.lst (kl ks)), .dat (.int s), .un, .un, .un, .un, .un, .un, .un, .un, .un, .un, .un, .un, .un]) ?_ ?_
  · walk_at "ys"
  rintro _ rfl
  refine Y_cut (J := fun ρ => ρ = [.dat (.sq (ns.map D.int)), .dat (.tup [.tup [.int a, .int b], .lst (kl ks), .int s, .lst (R.map rd)]), .dat (.tup [.int a, .int b]), .dat (.lst (kl ks)), .dat (.int s), .dat (.lst (R.map rd)), .un, .un, .un, .un, .un, .un, .un, .un, .un, .un, .un, .un]) ?_ ?_
  · walk_at "ys"
  rintro _ rfl
  refine Y_cut (J := fun ρ => ρ = [.dat (.sq (ns.map D.int)), .dat (.tup [.tup [.int a, .int b], .lst (kl ks), .int s, .lst (R.map rd)]), .dat (.tup [.int a, .int b]), .dat (.lst (kl ks)), .dat (.int s), .dat (.lst (R.map rd)), .dat (.lst (kl (pl ks))), .un, .un, .un, .un, .un, .un, .un, .un, .un, .un, .un]) ?_ ?_
  · walk_at "ys"
    refine y_plainL ks ?_
    walk_at "ys"
  rintro _ rfl
  generalize hcs : D.tup [.tup [.int a, .int b], .lst (kl ks), .int s, .lst (R.map rd)] = cs
  refine Y_cut (J := fun ρ => ρ = [.dat (.sq (ns.map D.int)), .dat cs, .dat (.tup [.int a, .int b]), .dat (.lst (kl ks)), .dat (.int s), .dat (.lst (R.map rd)), .dat (.lst (kl (pl ks))), .dat (.lst (kl (bdK a b ks))), .un, .un, .un, .un, .un, .un, .un, .un, .un, .un]) ?_ ?_
  · walk_at "ys"
    refine Y_lcGo (f := badN a b) (ρ0 := [.dat (.sq (ns.map D.int)), .dat cs, .dat (.tup [.int a, .int b]), .dat (.lst (kl ks)), .dat (.int s), .dat (.lst (R.map rd)), .dat (.lst (kl (pl ks))), .un, .un, .un, .un, .un, .un, .un, .un, .un, .un, .un]) (P := fun x => ∃ k ∈ pl ks, x = kd k) (fun x acc ⟨k, hk, e⟩ hl => ?_) _ _ (fun x hx => ?_) ?_ ?_
    · subst e
      have := gp k hk
      obtain ⟨v, q⟩ := k
      rw [show badN a b (kd (v, q)) = if sk a b (v, q) = true then none else some (kd (v, q)) from rfl]
      unfold kd
      walk_at "ys"
      refine y_faultL a b v q h1 h2 h3 ?_
      walk_at "ys"
      by_cases c : sk a b (v, q) = true
      · rw [if_neg (fun z => z (flt_sk.mpr c)), if_pos c]
        walk_at "ys"
      · rw [if_pos (fun z => c (flt_sk.mp z)), if_neg c]
        walk_at "ys"
    · obtain ⟨k, hk, e⟩ := List.mem_map.mp hx
      exact ⟨k, hk, e.symm⟩
    · have := pl_len ks
      rw [kl_len]
      simp
      omega
    · rw [List.nil_append, badN_fm]
      walk_at "ys"
      rfl
  rintro _ rfl
  refine Y_cut (J := fun ρ => ρ = [.dat (.sq (ns.map D.int)), .dat cs, .dat (.tup [.int a, .int b]), .dat (.lst (kl ks)), .dat (.int s), .dat (.lst (R.map rd)), .dat (.lst (kl (pl ks))), .dat (.lst (kl (bdK a b ks))), .dat (.lst (kl ks)), .un, .un, .un, .un, .un, .un, .un, .un, .un]) ?_ ?_
  · walk_at "ys"
  rintro _ rfl
  refine Y_cut (J := fun ρ => ρ = [.dat (.sq (ns.map D.int)), .dat cs, .dat (.tup [.int a, .int b]), .dat (.lst (kl ks)), .dat (.int s), .dat (.lst (R.map rd)), .dat (.lst (kl (pl ks))), .dat (.lst (kl (bdK a b ks))), .dat (.lst (kl ks)), .dat (La a b), .un, .un, .un, .un, .un, .un, .un, .un]) ?_ ?_
  · walk_at "ys"
    refine y_lac a b h1 h2 h3 ?_
    walk_at "ys"
  rintro _ rfl
  refine Y_cut (J := fun ρ => ρ = [.dat (.sq (ns.map D.int)), .dat cs, .dat (.tup [.int a, .int b]), .dat (.lst (kl ks)), .dat (.int s), .dat (.lst (R.map rd)), .dat (.lst (kl (pl ks))), .dat (.lst (kl (bdK a b ks))), .dat (.lst (kl ks)), .dat (La a b), .dat (Ci ks), .un, .un, .un, .un, .un, .un, .un]) ?_ ?_
  · walk_at "ys"
    refine y_clim ks hg (by omega) ?_
    walk_at "ys"
  rintro _ rfl
  refine Y_cut (J := fun ρ => ρ = [.dat (.sq (ns.map D.int)), .dat cs, .dat (.tup [.int a, .int b]), .dat (.lst (kl ks)), .dat (.int s), .dat (.lst (R.map rd)), .dat (.lst (kl (pl ks))), .dat (.lst (kl (bdK a b ks))), .dat (.lst (kl ks)), .dat (La a b), .dat (Ci ks), .dat (Ha s R), .un, .un, .un, .un, .un, .un]) ?_ ?_
  · walk_at "ys"
    refine y_habit s R s5 hR (by omega) ?_
    walk_at "ys"
  rintro _ rfl
  cases eb : bdK a b ks with
  | cons k r =>
    rw [kl_consT]
    walk_at "ys"
    rw [if_pos (by omega)]
    refine y_unsound s R a b ks k r h1 h2 h3 s5 hR2 hg eb ?_
    walk_at "ys"
    rw [eqK_refl]
    exact ⟨_, rfl, h _⟩
  | nil =>
    have e0 : kl ([] : List (Int × Int)) = [] := rfl
    rw [e0]
    refine Y_cut (J := fun ρ => ρ = [.dat (.sq (ns.map D.int)), .dat cs, .dat (.tup [.int a, .int b]), .dat (.lst (kl ks)), .dat (.int s), .dat (.lst (R.map rd)), .dat (.lst (kl (pl ks))), .dat (.lst []), .dat (.lst (kl ks)), .dat (La a b), .dat (Ci ks), .dat (Ha s R), .un, .un, .un, .un, .un, .un]) ?_ ?_
    · walk_at "ys"
      rw [if_neg (by decide)]
      trivial
    rintro _ rfl
    refine Y_cut (J := fun ρ => ρ = [.dat (.sq (ns.map D.int)), .dat cs, .dat (.tup [.int a, .int b]), .dat (.lst (kl ks)), .dat (.int s), .dat (.lst (R.map rd)), .dat (.lst (kl (pl ks))), .dat (.lst []), .dat (.lst (kl ks)), .dat (La a b), .dat (Ci ks), .dat (Ha s R), .dat (.int (hdL a b ks)), .un, .un, .un, .un, .un]) ?_ ?_
    · walk_at "ys"
      refine y_headL a b (pl ks) h1 h2 h3 ?_
      rw [hdL_pl h1 h2 hg]
      walk_at "ys"
    rintro _ rfl
    refine Y_cut (J := fun ρ => ρ = [.dat (.sq (ns.map D.int)), .dat cs, .dat (.tup [.int a, .int b]), .dat (.lst (kl ks)), .dat (.int s), .dat (.lst (R.map rd)), .dat (.lst (kl (pl ks))), .dat (.lst []), .dat (.lst (kl ks)), .dat (La a b), .dat (Ci ks), .dat (Ha s R), .dat (.int (hdL a b ks)), .dat .non, .un, .un, .un, .un]) ?_ ?_
    · walk_at "ys"
    rintro _ rfl
    refine Y_cut (J := fun ρ => ρ = [.dat (.sq (ns.map D.int)), .dat cs, .dat (.tup [.int a, .int b]), .dat (.lst (kl ks)), .dat (.int s), .dat (.lst (R.map rd)), .dat (.lst (kl (pl ks))), .dat (.lst []), .dat (.lst (kl ks)), .dat (La a b), .dat (Ci ks), .dat (Ha s R), .dat (.int (hdL a b ks)), .dat (trD a b (pl ks) (hdL a b ks) s), .un, .un, .un, .un]) ?_ ?_
    · walk_at "ys"
      unfold trD
      split
      · rename_i c
        rw [if_neg (by omega)]
        refine y_triple a b _ (pl ks) h1 h2 h3 ?_
        walk_at "ys"
      · rename_i c
        rw [if_pos (by omega)]
    rintro _ rfl
    refine Y_cut (J := fun ρ => ρ = [.dat (.sq (ns.map D.int)), .dat cs, .dat (.tup [.int a, .int b]), .dat (.lst (kl ks)), .dat (.int s), .dat (.lst (R.map rd)), .dat (.lst (kl (pl ks))), .dat (.lst []), .dat (.lst (kl ks)), .dat (La a b), .dat (Ci ks), .dat (Ha s R), .dat (.int (hdL a b ks)), .dat (trD a b (pl ks) (hdL a b ks) s), .un, .un, .un, .un]) ?_ ?_
    · walk_at "ys"
      refine y_trap a b s ks h1 h2 h3 (by omega) hg (fun _ => ?_) (fun _ _ z => by rw [eb] at z; cases z)
      walk_at "ys"
      refine y_sameD 4 _ sok_trD ?_
      walk_at "ys"
    rintro _ rfl
    refine Y_cut (J := fun ρ => ∃ x y z : Int, ρ = [.dat (.sq (ns.map D.int)), .dat cs, .dat (.tup [.int a, .int b]), .dat (.lst (kl ks)), .dat (.int s), .dat (.lst (R.map rd)), .dat (.lst (kl (pl ks))), .dat (.lst []), .dat (.lst (kl ks)), .dat (La a b), .dat (Ci ks), .dat (Ha s R), .dat (.int (hdL a b ks)), .dat (trD a b (pl ks) (hdL a b ks) s), .cel .own (.lst [.int x, .int y, .int z]), .un, .un, .un]) ?_ ?_
    · walk_at "ys"
      refine y_cell ns 1 (by omega) fun c => ?_
      walk_at "ys"
      refine y_pool c fun x y z => ?_
      walk_at "ys"
      exact ⟨_, _, _, rfl⟩
    rintro _ ⟨x, y, z, rfl⟩
    have hd0 : 0 ≤ hdL a b ks := (hdL_ge (a := a) (b := b) ks 0).1
    refine Y_cut (J := fun ρ => ∃ (x y z : Int) (s15 s16 : Sl), ρ = [.dat (.sq (ns.map D.int)), .dat cs, .dat (.tup [.int a, .int b]), .dat (.lst (kl ks)), .dat (.int s), .dat (.lst (R.map rd)), .dat (.lst (kl (pl ks))), .dat (.lst []), .dat (.lst (kl ks)), .dat (La a b), .dat (Ci ks), .dat (Ha s R), .dat (.int (hdL a b ks)), .dat (trD a b (pl ks) (hdL a b ks) s), .cel .own (.lst [.int x, .int y, .int z]), s15, s16, .un]) ?_ ?_
    · walk_at "ys"
      refine y_take _ _ _ _ (by omega) (by omega) fun d x1 y1 z1 d1 d2 => ?_
      walk_at "ys"
      refine y_take _ _ _ _ (by omega) (by omega) fun e x2 y2 z2 e1 e2 => ?_
      walk_at "ys"
      refine Y_loop (I := fun r ρ => ∃ (fs : List Int) (x y z : Int) (s15 s16 : Sl), r = fs.map .int ∧ (∀ f ∈ fs, 0 ≤ f) ∧ canSet s15 = true ∧ canSet s16 = true ∧ ρ = [.dat (.sq (ns.map D.int)), .dat cs, .dat (.tup [.int a, .int b]), .dat (.lst (kl ks)), .dat (.int s), .dat (.lst (R.map rd)), .dat (.lst (kl (pl ks))), .dat (.lst []), .dat (.lst (kl ks)), .dat (La a b), .dat (Ci ks), .dat (Ha s R), .dat (.int (hdL a b ks)), .dat (trD a b (pl ks) (hdL a b ks) s), .cel .own (.lst [.int x, .int y, .int z]), s15, s16, .un])
        ⟨[d, max 0 (hdL a b ks - 1), hdL a b ks, hdL a b ks + 1 + e], _, _, _, .un, .un, rfl, fun f hf => by simp at hf; omega, rfl, rfl, rfl⟩ (fun q r ρ => ?_) (fun ρ => ?_)
      · rintro ⟨fs, x, y, z, s15, s16, er, hf, c15, c16, rfl⟩
        cases fs with
        | nil => cases er
        | cons f fs =>
          cases er
          have f0 := hf f (by simp)
          have hf := fun g hg => hf g (List.mem_cons_of_mem _ hg)
          refine Y_tgN rfl c15 ?_
          refine Y_cut (J := fun ρ => ρ = [.dat (.sq (ns.map D.int)), .dat cs, .dat (.tup [.int a, .int b]), .dat (.lst (kl ks)), .dat (.int s), .dat (.lst (R.map rd)), .dat (.lst (kl (pl ks))), .dat (.lst []), .dat (.lst (kl ks)), .dat (La a b), .dat (Ci ks), .dat (Ha s R), .dat (.int (hdL a b ks)), .dat (trD a b (pl ks) (hdL a b ks) s), .cel .own (.lst [.int x, .int y, .int z]), .dat (.int f), .dat .non, .un]) ?_ ?_
          · walk_at "ys"
            exact c16
          rintro _ rfl
          refine Y_cut (J := fun ρ => ρ = [.dat (.sq (ns.map D.int)), .dat cs, .dat (.tup [.int a, .int b]), .dat (.lst (kl ks)), .dat (.int s), .dat (.lst (R.map rd)), .dat (.lst (kl (pl ks))), .dat (.lst []), .dat (.lst (kl ks)), .dat (La a b), .dat (Ci ks), .dat (Ha s R), .dat (.int (hdL a b ks)), .dat (trD a b (pl ks) (hdL a b ks) s), .cel .own (.lst [.int x, .int y, .int z]), .dat (.int f), .dat (trD a b (pl ks) (hdL a b ks) f), .un]) ?_ ?_
          · walk_at "ys"
            unfold trD
            by_cases c : f < hdL a b ks
            · rw [if_pos c, if_neg (show ¬ hdL a b ks ≤ f by omega)]
              refine y_triple a b _ (pl ks) h1 h2 h3 ?_
              walk_at "ys"
            · rw [if_neg c, if_pos (show hdL a b ks ≤ f by omega)]
          rintro _ rfl
          walk_at "ys"
          refine y_trap a b f ks h1 h2 h3 f0 hg (fun _ => ?_) (fun _ _ z => by rw [eb] at z; cases z)
          walk_at "ys"
          refine y_sameD 4 _ sok_trD ?_
          walk_at "ys"
          exact ⟨fs, _, _, _, _, _, rfl, hf, rfl, rfl, rfl⟩
      · rintro ⟨fs, x, y, z, s15, s16, er, hf, c15, c16, rfl⟩
        exact ⟨rfl, x, y, z, s15, s16, rfl⟩
    rintro _ ⟨x, y, z, s15, s16, rfl⟩
    refine Y_cut (J := fun ρ => ρ = [.dat (.sq (ns.map D.int)), .dat cs, .dat (.tup [.int a, .int b]), .dat (.lst (kl ks)), .dat (.int s), .dat (.lst (R.map rd)), .dat (.lst (kl (pl ks))), .dat (.lst []), .dat (.lst (kl ks)), .dat (La a b), .dat (Ci ks), .dat (Ha s R), .dat (.int (hdL a b ks)), .dat (trD a b (pl ks) (hdL a b ks) s), .cel .own (.lst [.int x, .int y, .int z]), s15, s16, .un]) ?_ ?_
    · walk_at "ys"
      refine y_trapped s R a b ks h1 h2 h3 s5 hR1 hg eb ?_
      walk_at "ys"
    rintro _ rfl
    refine Y_cut (J := fun ρ => ρ = [.dat (.sq (ns.map D.int)), .dat cs, .dat (.tup [.int a, .int b]), .dat (.lst (kl ks)), .dat (.int s), .dat (.lst (R.map rd)), .dat (.lst (kl (pl ks))), .dat (.lst []), .dat (.lst (kl ks)), .dat (La a b), .dat (Ci ks), .dat (Ha s R), .dat (.int (hdL a b ks)), .dat (trD a b (pl ks) (hdL a b ks) s), .cel .own (.lst [.int x, .int y, .int z]), s15, s16, .un]) ?_ ?_
    · walk_at "ys"
      refine y_eager s s5 ?_
      walk_at "ys"
      refine y_trapped s [] a b ks h1 h2 h3 s5 (fun r hr => by cases hr) hg eb ?_
      walk_at "ys"
    rintro _ rfl
    refine Y_cut (J := fun ρ => ρ = [.dat (.sq (ns.map D.int)), .dat cs, .dat (.tup [.int a, .int b]), .dat (.lst (kl ks)), .dat (.int s), .dat (.lst (R.map rd)), .dat (.lst (kl (pl ks))), .dat (.lst []), .dat (.lst (kl ks)), .dat (La a b), .dat (Ci ks), .dat (Ha s R), .dat (.int (hdL a b ks)), .dat (trD a b (pl ks) (hdL a b ks) s), .cel .own (.lst [.int x, .int y, .int z]), s15, s16, .un]) ?_ ?_
    · walk_at "ys"
      refine y_trap a b s ks h1 h2 h3 (by omega) hg (fun _ => ?_) (fun _ _ z => by rw [eb] at z; cases z)
      walk_at "ys"
      refine y_sameD 4 _ sok_trD ?_
      walk_at "ys"
      rw [eqK_refl]
      walk_at "ys"
    rintro _ rfl
    walk_at "ys"
    refine y_trapped s R a b ks h1 h2 h3 s5 hR1 hg eb ?_
    walk_at "ys"
    exact h _
theorem law_pure (ns : List Int) (_ : ns.length ≤ 63) : ∃ ρ, G_l_law [.dat (.sq (ns.map D.int))] = some (.ok (.d (.bl true)), ρ) := by
  obtain ⟨r, ρ, e, k⟩ := (y_law ns (K := fun r _ => r = .d (.bl true)) fun _ => rfl).mk
  subst k
  exact ⟨ρ, e⟩

end DP
namespace DP
open PySem PySem.Spec PyProof.Rows L2 PL
set_option maxHeartbeats 3900000
set_option exponentiation.threshold 20000
section
variable {P : Program} {w : World} {K : PySem.W.Frag} {mg : Str → Option Value} {base : Heap} {ad : Cl → Addr}
theorem ok_f_check_kind {f : Addr} {fd : FuncData} (F : L2.Fun K "check_kind" "check_kind" s_f_check_kind f fd)
    (T_BadKind : S_BadKind K mg (ad .BadKind))
    (g_MOST_RUN : ∃ u, mg "MOST_RUN" = some u ∧ RelV (.int 120) u)
    (g_MOST_SPELL : ∃ u, mg "MOST_SPELL" = some u ∧ RelV (.int 16) u) :
    FnOk P w K mg base (L2.CX P w) 1 f fd ["w", "g"] (spP K ad 2 G_f_check_kind) :=
  okX (N := N_f_check_kind) (s := B_f_check_kind) F sc_f_check_kind rfl rfl fun cdv A outer s H E hr =>
    (ss_1 (s_if (PW.pt (pp_woo (pp_tno (pp_tch2 op_le op_le o_le o_le (pp_c pe_int) (pp_v 0 (pv 0)) (pp_c (C8.pe_gc (by rfl) g_MOST_SPELL)))) (pw_or1 (pp_tno (pp_tch2 op_le op_le o_le o_le (pp_c pe_int) (pp_v 1 (pv 1)) (pp_c (C8.pe_gc (by rfl) g_MOST_RUN)))))))
    (ss_1 (s_raise1 .BadKind rfl (takes_of rfl rfl rfl rfl) PySem.F.excBase_ValueError T_BadKind.x T_BadKind.mg T_BadKind.kp (raises_own T_BadKind.b T_BadKind.t) rfl (pp_joined (.cons (pp_c pe_str) (.cons (pp_fmt (pp_v 0 (pv 0))) (.cons (pp_c pe_str) (.cons (pp_fmt (pp_v 1 (pv 1))) (.cons (pp_c pe_str) .nil))))))))
    ss_n))

theorem ok_f_check_kinds {f : Addr} {fd : FuncData} (F : L2.Fun K "check_kinds" "check_kinds" s_f_check_kinds f fd)
    (T_BadKind : S_BadKind K mg (ad .BadKind))
    (z_len : mg "len" = none)
    (g_MOST_KINDS : ∃ u, mg "MOST_KINDS" = some u ∧ RelV (.int 300) u)
    {f_f_check_kind : Addr} {fd_f_check_kind : FuncData} (O_f_check_kind : FnOk P w K mg base (L2.CX P w) 1 f_f_check_kind fd_f_check_kind ["w", "g"] (spP K ad 2 G_f_check_kind)) (m_f_check_kind : mg "check_kind" = some (.ref f_f_check_kind)) (k_f_check_kind : PySem.W.keepIn K (.ref f_f_check_kind) = true) (b_f_check_kind : Binds K fd_f_check_kind ["w", "g"] []) :
    FnOk P w K mg base (L2.CX P w) 2 f fd ["kinds"] (spP K ad 1 G_f_check_kinds) :=
  okX (N := N_f_check_kinds) (s := B_f_check_kinds) F sc_f_check_kinds rfl rfl fun cdv A outer s H E hr =>
    (ss_c (s_if (pp_tcmp op_gt o_gt (pp_B ob_len (c_lenA rfl) (by rfl) z_len (by decide +kernel) (pd_c (pp_v 0 (pv 0)) pd_n)) (pp_c (C8.pe_gc (by rfl) g_MOST_KINDS)) (nomark _))
    (ss_1 (s_raise1 .BadKind rfl (takes_of rfl rfl rfl rfl) PySem.F.excBase_ValueError T_BadKind.x T_BadKind.mg T_BadKind.kp (raises_own T_BadKind.b T_BadKind.t) rfl (pp_joined (.cons (pp_fmt (pp_B ob_len (c_lenA rfl) (by rfl) z_len (by decide +kernel) (pd_c (pp_v 0 (pv 0)) pd_n))) (.cons (pp_c pe_str) .nil)))))
    ss_n)
    (ss_1 (s_for (passes_of rfl) rfl (pi_l rfl (pp_v 0 (pv 0))) (g_t rfl rfl (gs_c (g_n (i := 1) sc_f_check_kinds.nd rfl (by first | exact Or.inl rfl | exact Or.inr rfl)) (gs_c (g_n (i := 2) sc_f_check_kinds.nd rfl (by first | exact Or.inl rfl | exact Or.inr rfl)) gs_n)))
    (ss_1 (s_ex (pp_callS O_f_check_kind (takes_of rfl rfl rfl rfl) (hr.mono (by decide)) (by rfl) m_f_check_kind k_f_check_kind b_f_check_kind (pq_c (pp_v 1 (pv 1)) (pq_c (pp_v 2 (pv 2)) pq_n))))))))

theorem ok_f_plain_list {f : Addr} {fd : FuncData} (F : L2.Fun K "plain_list" "plain_list" s_f_plain_list f fd)
    (z_min : mg "min" = none)
    (z_sorted : mg "sorted" = none) :
    FnOk P w K mg base CX0 1 f fd ["kinds"] (spP K ad 1 G_f_plain_list) :=
  ok0 (N := N_f_plain_list) (s := B_f_plain_list) F sc_f_plain_list rfl rfl fun cdv A outer s H E hr =>
    (ss_c (s_setC (i := 1) sc_f_plain_list.nd rfl (by first | exact Or.inl rfl | exact Or.inr rfl) pp_dnew)
    (ss_c (s_for PassesOwn.never rfl (pi_l rfl (pp_v 0 (pv 0))) (g_t rfl rfl (gs_c (g_n (i := 2) sc_f_plain_list.nd rfl (by first | exact Or.inl rfl | exact Or.inr rfl)) (gs_c (g_n (i := 3) sc_f_plain_list.nd rfl (by first | exact Or.inl rfl | exact Or.inr rfl)) gs_n)))
    (ss_1 (s_dput 1 (hu_of hr) (pv 1) (pp_v 2 (pv 2)) (pp_B ob_min2 (OW.c_min2 rfl) (by rfl) z_min (by decide +kernel) (pd_c (pp_v 3 (pv 3)) (pd_c (pp_dget2 1 (hu_of hr) (pv 1) (pp_v 2 (pv 2)) (pp_v 3 (pv 3)) ⟨by rfl, by rfl, by rfl, by rfl⟩) pd_n))))))
    (ss_c (s_setC (i := 4) sc_f_plain_list.nd rfl (by first | exact Or.inl rfl | exact Or.inr rfl) (pp_lst pd_n))
    (ss_c (s_for PassesOwn.never rfl (pi_l rfl (pp_sortDR 1 rfl (by rfl) z_sorted (pv 1))) (g_n (i := 2) sc_f_plain_list.nd rfl (by first | exact Or.inl rfl | exact Or.inr rfl))
    (ss_1 (s_if (PW.pt (pp_woo (look_b 4 (pp_tno (pp_ttr rfl (pp_v 4 (pv 4))))) (pw_or1 (pp_tcmp op_lt o_lt (pp_dget 1 (hu_of hr) (pv 1) (pp_v 2 (pv 2)) (fun _ _ => rfl)) (pp_ix rfl (look_v 4 (pp_ix rfl (pp_v 4 (pv 4)) (pp_1 un_neg o_neg (pp_c pe_int)) (fun _ _ => rfl))) (pp_c pe_int) (fun _ _ => rfl)) (nomark _)))))
    (ss_1 (s_ex (pp_bmL 4 rfl ol_app PySem.F.plainAttrs_list PySem.F.slot_list_append PySem.F.type_list_append mt_append (pv 4) (pd_c (pp_tup (pd_c (pp_v 2 (pv 2)) (pd_c (pp_dget 1 (hu_of hr) (pv 1) (pp_v 2 (pv 2)) (fun _ _ => rfl)) pd_n))) pd_n))))
    ss_n)))
    (ss_1 (s_ret (pp_rev rfl (pp_f 4 (pv 4)))))))))

theorem ok_Climate_init {f : Addr} {fd : FuncData} (F : L2.Fun K "__init__" "Climate.__init__" s_Climate_init f fd)
    (T_Climate : S_Climate K mg (ad .Climate))
    (z_tuple : mg "tuple" = none)
    {f_f_check_kinds : Addr} {fd_f_check_kinds : FuncData} (O_f_check_kinds : FnOk P w K mg base (L2.CX P w) 2 f_f_check_kinds fd_f_check_kinds ["kinds"] (spP K ad 1 G_f_check_kinds)) (m_f_check_kinds : mg "check_kinds" = some (.ref f_f_check_kinds)) (k_f_check_kinds : PySem.W.keepIn K (.ref f_f_check_kinds) = true) (b_f_check_kinds : Binds K fd_f_check_kinds ["kinds"] [])
    {f_f_plain_list : Addr} {fd_f_plain_list : FuncData} (O_f_plain_list : FnOk P w K mg base CX0 1 f_f_plain_list fd_f_plain_list ["kinds"] (spP K ad 1 G_f_plain_list)) (m_f_plain_list : mg "plain_list" = some (.ref f_f_plain_list)) (k_f_plain_list : PySem.W.keepIn K (.ref f_f_plain_list) = true) (b_f_plain_list : Binds K fd_f_plain_list ["kinds"] []) :
    FnOk P w K mg base (L2.CX P w) 3 f fd ["self", "kinds"] (spP K ad 2 G_Climate_init) :=
  okX (N := N_Climate_init) (s := B_Climate_init) F sc_Climate_init rfl rfl fun cdv A outer s H E hr =>
    (ss_c (s_ex (pp_callS O_f_check_kinds (takes_of rfl rfl rfl rfl) (hr.mono (by decide)) (by rfl) m_f_check_kinds k_f_check_kinds b_f_check_kinds (pq_c (pp_v 1 (pv 1)) pq_n)))
    (ss_1 (s_fld .Climate 0 rfl T_Climate.cl T_Climate.n_kinds (pv 0) (pp_T ob_tup (c_tupA rfl) (by rfl) z_tuple (by decide +kernel) (pd_c (pp_call O_f_plain_list (hr.mono (by decide)) (by rfl) m_f_plain_list k_f_plain_list b_f_plain_list .nil pass0 (pq_c (pp_v 1 (pv 1)) pq_n) .nil) pd_n)))))

theorem ok_f_is_row {f : Addr} {fd : FuncData} (F : L2.Fun K "_is_row" "_is_row" s_f_is_row f fd)
    (z_all : mg "all" = none)
    (z_len : mg "len" = none)
    (g_MARKS : ∃ a, mg "MARKS" = some (.ref a) ∧ KTup K a [.str ".", .str "#", .str "?"])
    (g_MOST_AGE : ∃ u, mg "MOST_AGE" = some u ∧ RelV (.int 8) u)
    (g_MOST_DRY : ∃ u, mg "MOST_DRY" = some u ∧ RelV (.int 8) u) :
    FnOk P w K mg base CX0 1 f fd ["row", "sight"] (spP K ad 2 G_f_is_row) :=
  ok0 (N := N_f_is_row) (s := B_f_is_row) F sc_f_is_row rfl rfl fun cdv A outer s H E hr =>
    (ss_c (s_if (pp_tcmp (op_neB hr.units) o_ne (pp_B ob_len (c_lenA rfl) (by rfl) z_len (by decide +kernel) (pd_c (pp_v 0 (pv 0)) pd_n)) (pp_c pe_int) (nomark _))
    (ss_1 (s_ret (pp_c pe_bl)))
    ss_n)
    (ss_c (s_asgT (pp_v 0 (pv 0)) (g_t rfl rfl (gs_c (g_n (i := 2) sc_f_is_row.nd rfl (by first | exact Or.inl rfl | exact Or.inr rfl)) (gs_c (g_n (i := 3) sc_f_is_row.nd rfl (by first | exact Or.inl rfl | exact Or.inr rfl)) (gs_c (g_n (i := 4) sc_f_is_row.nd rfl (by first | exact Or.inl rfl | exact Or.inr rfl)) (gs_c (g_n (i := 5) sc_f_is_row.nd rfl (by first | exact Or.inl rfl | exact Or.inr rfl)) gs_n))))))
    (ss_c (s_set (i := 6) sc_f_is_row.nd rfl (by first | exact Or.inl rfl | exact Or.inr rfl) (pp_van (pp_cmp (op_eqB hr.units) o_eq (pp_B ob_len (c_lenA rfl) (by rfl) z_len (by decide +kernel) (pd_c (pp_v 4 (pv 4)) pd_n)) (pp_v 1 (pv 1)) (nomark _)) (pe_one (pp_B ob_all (cr_all rfl) (by rfl) z_all (by decide +kernel) (pd_c (pp_lc (own := [("mark", 7)]) (by rfl) sc_f_is_row.nd (pi_s (pp_v 4 (pv 4))) (blkOk_by (N := N_f_is_row) (sc := defScope s_f_is_row) (by decide +kernel)) (fun _ _ _ _ _ => (g_n (i := 7) sc_f_is_row.nd rfl (by first | exact Or.inl rfl | exact Or.inr rfl))) (fun _ _ _ _ _ => pts_n) (fun _ _ _ _ _ => (pp_cmp (op_inB rfl) o_in (pp_v 7 (pv 7)) (pp_gT rfl (by rfl) g_MARKS) (by rfl)))) pd_n)))))
    (ss_1 (s_ret (pp_van (pp_ch2 op_le op_le o_le o_le (pp_c pe_int) (pp_v 2 (pv 2)) (pp_c (C8.pe_gc (by rfl) g_MOST_AGE))) (pp_van (pp_ch2 op_le op_le o_le o_le (pp_c pe_int) (pp_v 3 (pv 3)) (pp_c (C8.pe_gc (by rfl) g_MOST_DRY))) (pp_van (pp_v 6 (pv 6)) (pe_one (pp_voo (pp_cmp op_isBB o_isB (pp_v 5 (pv 5)) (pp_c pe_bl) (nomark _)) (pe_one (pp_cmp op_isBB o_isB (pp_v 5 (pv 5)) (pp_c pe_bl) (nomark _)))))))))))))

theorem ok_Habit_init {f : Addr} {fd : FuncData} (F : L2.Fun K "__init__" "Habit.__init__" s_Habit_init f fd)
    (T_BadHabit : S_BadHabit K mg (ad .BadHabit))
    (T_Habit : S_Habit K mg (ad .Habit))
    (z_all : mg "all" = none)
    (z_len : mg "len" = none)
    (z_tuple : mg "tuple" = none)
    (g_MOST_ROWS : ∃ u, mg "MOST_ROWS" = some u ∧ RelV (.int 40) u)
    (g_MOST_SIGHT : ∃ u, mg "MOST_SIGHT" = some u ∧ RelV (.int 5) u)
    {f_f_is_row : Addr} {fd_f_is_row : FuncData} (O_f_is_row : FnOk P w K mg base CX0 1 f_f_is_row fd_f_is_row ["row", "sight"] (spP K ad 2 G_f_is_row)) (m_f_is_row : mg "_is_row" = some (.ref f_f_is_row)) (k_f_is_row : PySem.W.keepIn K (.ref f_f_is_row) = true) (b_f_is_row : Binds K fd_f_is_row ["row", "sight"] []) :
    FnOk P w K mg base (L2.CX P w) 2 f fd ["self", "sight", "rows"] (spP K ad 3 G_Habit_init) :=
  okX (N := N_Habit_init) (s := B_Habit_init) F sc_Habit_init rfl rfl fun cdv A outer s H E hr =>
    (ss_c (s_if (PW.pt (pp_woo (pp_tno (pp_tch2 op_le op_le o_le o_le (pp_c pe_int) (pp_v 1 (pv 1)) (pp_c (C8.pe_gc (by rfl) g_MOST_SIGHT)))) (pw_or1 (pp_tcmp op_gt o_gt (pp_B ob_len (c_lenA rfl) (by rfl) z_len (by decide +kernel) (pd_c (pp_v 2 (pv 2)) pd_n)) (pp_c (C8.pe_gc (by rfl) g_MOST_ROWS)) (nomark _)))))
    (ss_1 (s_raise1 .BadHabit rfl (takes_of rfl rfl rfl rfl) PySem.F.excBase_ValueError T_BadHabit.x T_BadHabit.mg T_BadHabit.kp (raises_own T_BadHabit.b T_BadHabit.t) rfl (pp_joined (.cons (pp_c pe_str) (.cons (pp_fmt (pp_c (C8.pe_gc (by rfl) g_MOST_SIGHT))) (.cons (pp_c pe_str) (.cons (pp_fmt (pp_c (C8.pe_gc (by rfl) g_MOST_ROWS))) (.cons (pp_c pe_str) .nil))))))))
    ss_n)
    (ss_c (s_if (pp_tno (pp_tval (pp_B ob_all (cr_all rfl) (by rfl) z_all (by decide +kernel) (pd_c (pp_lc (own := [("row", 3)]) (by rfl) sc_Habit_init.nd (pi_l rfl (pp_v 2 (pv 2))) (blkOk_by (N := N_Habit_init) (sc := defScope s_Habit_init) (by decide +kernel)) (fun _ _ _ _ _ => (g_n (i := 3) sc_Habit_init.nd rfl (by first | exact Or.inl rfl | exact Or.inr rfl))) (fun _ _ _ _ _ => pts_n) (fun _ _ _ _ _ => (pp_call O_f_is_row (hr.mono (by decide)) (by rfl) m_f_is_row k_f_is_row b_f_is_row .nil pass0 (pq_c (pp_v 3 (pv 3)) (pq_c (pp_v 1 (pv 1)) pq_n)) .nil))) pd_n))))
    (ss_1 (s_raise .BadHabit rfl (takes_of rfl rfl rfl rfl) PySem.F.excBase_ValueError T_BadHabit.x T_BadHabit.mg T_BadHabit.kp (raises_own T_BadHabit.b T_BadHabit.t) rfl))
    ss_n)
    (ss_c (s_fld .Habit 0 rfl T_Habit.cl T_Habit.n_sight (pv 0) (pp_v 1 (pv 1)))
    (ss_1 (s_fld .Habit 0 rfl T_Habit.cl T_Habit.n_rows (pv 0) (pp_T ob_tup (c_tupA rfl) (by rfl) z_tuple (by decide +kernel) (pd_c (pp_v 2 (pv 2)) pd_n)))))))

theorem ok_Habit_eager {f : Addr} {fd : FuncData} (F : L2.Fun K "eager" "Habit.eager" s_Habit_eager f fd)
    (T_Habit : S_Habit K mg (ad .Habit))
    {f_Habit_init : Addr} {fd_Habit_init : FuncData} (O_Habit_init : FnOk P w K mg base (L2.CX P w) 2 f_Habit_init fd_Habit_init ["self", "sight", "rows"] (spP K ad 3 G_Habit_init)) (b_Habit_init : Binds K fd_Habit_init ["self", "sight", "rows"] []) (I_Habit : Mk K (ad .Habit) f_Habit_init) :
    FnOk P w K mg base (L2.CX P w) 4 f fd ["sight"] (spP K ad 1 G_Habit_eager) :=
  okX (N := N_Habit_eager) (s := B_Habit_eager) F sc_Habit_eager rfl rfl fun cdv A outer s H E hr =>
    (ss_1 (s_ret (pp_makeS .Habit I_Habit O_Habit_init (takes_of rfl rfl rfl rfl) (hr.mono (by decide)) (by rfl) T_Habit.mg b_Habit_init .nil (pq_c (pp_v 0 (pv 0)) (pq_c (pp_lst pd_n) pq_n)) .nil)))

theorem ok_Lacquer_init {f : Addr} {fd : FuncData} (F : L2.Fun K "__init__" "Lacquer.__init__" s_Lacquer_init f fd)
    (T_BadLacquer : S_BadLacquer K mg (ad .BadLacquer))
    (T_Lacquer : S_Lacquer K mg (ad .Lacquer)) :
    FnOk P w K mg base (L2.CX P w) 1 f fd ["self", "a", "b"] (spP K ad 3 G_Lacquer_init) :=
  okX (N := N_Lacquer_init) (s := B_Lacquer_init) F sc_Lacquer_init rfl rfl fun cdv A outer s H E hr =>
    (ss_c (s_if (pp_tno (pp_tch3 op_le op_lt op_le o_le o_lt o_le (pp_c pe_int) (pp_v 1 (pv 1)) (pp_v 2 (pv 2)) (pp_cval .Lacquer T_Lacquer.mg T_Lacquer.cr T_Lacquer.v_MOST)))
    (ss_1 (s_raise1 .BadLacquer rfl (takes_of rfl rfl rfl rfl) PySem.F.excBase_ValueError T_BadLacquer.x T_BadLacquer.mg T_BadLacquer.kp (raises_own T_BadLacquer.b T_BadLacquer.t) rfl (pp_joined (.cons (pp_c pe_str) (.cons (pp_fmt (pp_v 1 (pv 1))) (.cons (pp_c pe_str) (.cons (pp_fmt (pp_v 2 (pv 2))) .nil)))))))
    ss_n)
    (ss_c (s_fld .Lacquer 0 rfl T_Lacquer.cl T_Lacquer.n_a (pv 0) (pp_v 1 (pv 1)))
    (ss_1 (s_fld .Lacquer 0 rfl T_Lacquer.cl T_Lacquer.n_b (pv 0) (pp_v 2 (pv 2))))))

theorem ok_Climate_iter {f : Addr} {fd : FuncData} (F : L2.Fun K "__iter__" "Climate.__iter__" s_Climate_iter f fd) (T_Climate : S_Climate K mg (ad .Climate)) (z_iter : mg "iter" = none) :
    OW.FnS P w K mg base 1 f fd ["self"] (spIt K (ad .Climate) "kinds") := by
  refine OW.okS F sc_Climate_iter (fun _ vs H Q E h => ?_) (fun cdv A outer s H vs Q E hr h => ?_)
  · obtain ⟨p, dx, t, fs, zs, rfl, _⟩ := h
    rfl
  · obtain ⟨p, dx, t, fs, zs, rfl, hp, hl, hT, q⟩ := h
    exact ⟨_, (pss_one (ps_ret (pe_callB OW.c_iterT (by rfl) z_iter (by decide +kernel) (pa_cons (pe_fld (pv 0) rfl) pa_nil)))), .ref p, rfl, p, _, dx, fs, .ref t, rfl, hp, T_Climate.cl, T_Climate.n_kinds, hl, t, zs, rfl, hT, q⟩

theorem ok_Lacquer_slack {f : Addr} {fd : FuncData} (F : L2.Fun K "slack" "Lacquer.slack" s_Lacquer_slack f fd)
    (T_Lacquer : S_Lacquer K mg (ad .Lacquer)) :
    FnOk P w K mg base CX0 1 f fd ["self"] (spP K ad 1 G_Lacquer_slack) :=
  ok0 (N := N_Lacquer_slack) (s := B_Lacquer_slack) F sc_Lacquer_slack rfl rfl fun cdv A outer s H E hr =>
    (ss_1 (s_ret (pp_2 op_sub o_sub (pp_fld .Lacquer 1 rfl T_Lacquer.cl T_Lacquer.n_b (pp_v 0 (pv 0))) (pp_fld .Lacquer 0 rfl T_Lacquer.cl T_Lacquer.n_a (pp_v 0 (pv 0))))))

theorem ok_f_ceil_div {f : Addr} {fd : FuncData} (F : L2.Fun K "ceil_div" "ceil_div" s_f_ceil_div f fd)
     :
    FnOk P w K mg base CX0 1 f fd ["x", "y"] (spP K ad 2 G_f_ceil_div) :=
  ok0 (N := N_f_ceil_div) (s := B_f_ceil_div) F sc_f_ceil_div rfl rfl fun cdv A outer s H E hr =>
    (ss_1 (s_ret (pp_1 un_neg o_neg (pp_2 op_divB o_div (pp_1 un_neg o_neg (pp_v 0 (pv 0))) (pp_v 1 (pv 1))))))

theorem ok_Lacquer_spans {f : Addr} {fd : FuncData} (F : L2.Fun K "spans" "Lacquer.spans" s_Lacquer_spans f fd)
    (T_BadNumber : S_BadNumber K mg (ad .BadNumber))
    (T_Lacquer : S_Lacquer K mg (ad .Lacquer))
    {f_f_ceil_div : Addr} {fd_f_ceil_div : FuncData} (O_f_ceil_div : FnOk P w K mg base CX0 1 f_f_ceil_div fd_f_ceil_div ["x", "y"] (spP K ad 2 G_f_ceil_div)) (m_f_ceil_div : mg "ceil_div" = some (.ref f_f_ceil_div)) (k_f_ceil_div : PySem.W.keepIn K (.ref f_f_ceil_div) = true) (b_f_ceil_div : Binds K fd_f_ceil_div ["x", "y"] [])
    {f_Lacquer_slack : Addr} {fd_Lacquer_slack : FuncData} (O_Lacquer_slack : FnOk P w K mg base CX0 1 f_Lacquer_slack fd_Lacquer_slack ["self"] (spP K ad 1 G_Lacquer_slack)) (b_Lacquer_slack : Binds K fd_Lacquer_slack ["self"] []) {p_Lacquer_slack : Addr} (P_Lacquer_slack : PropOf K (ad .Lacquer) "slack" p_Lacquer_slack f_Lacquer_slack) :
    FnOk P w K mg base (L2.CX P w) 3 f fd ["self", "w"] (spP K ad 2 G_Lacquer_spans) :=
  okX (N := N_Lacquer_spans) (s := B_Lacquer_spans) F sc_Lacquer_spans rfl rfl fun cdv A outer s H E hr =>
    (ss_c (s_if (pp_tcmp op_lt o_lt (pp_v 1 (pv 1)) (pp_c pe_int) (nomark _))
    (ss_1 (s_raise .BadNumber rfl (takes_of rfl rfl rfl rfl) PySem.F.excBase_ValueError T_BadNumber.x T_BadNumber.mg T_BadNumber.kp (raises_own T_BadNumber.b T_BadNumber.t) rfl))
    ss_n)
    (ss_1 (s_ret (pp_call O_f_ceil_div (hr.mono (by decide)) (by rfl) m_f_ceil_div k_f_ceil_div b_f_ceil_div .nil pass0 (pq_c (pp_v 1 (pv 1)) (pq_c (pp_prop .Lacquer (pp_v 0 (pv 0)) T_Lacquer.cl P_Lacquer_slack O_Lacquer_slack (hr.mono (by decide)) b_Lacquer_slack pass0) pq_n)) .nil))))

theorem ok_Lacquer_lead {f : Addr} {fd : FuncData} (F : L2.Fun K "lead" "Lacquer.lead" s_Lacquer_lead f fd)
    (T_BadNumber : S_BadNumber K mg (ad .BadNumber))
    (T_Lacquer : S_Lacquer K mg (ad .Lacquer))
    {f_Lacquer_spans : Addr} {fd_Lacquer_spans : FuncData} (O_Lacquer_spans : FnOk P w K mg base (L2.CX P w) 3 f_Lacquer_spans fd_Lacquer_spans ["self", "w"] (spP K ad 2 G_Lacquer_spans)) (b_Lacquer_spans : Binds K fd_Lacquer_spans ["self", "w"] []) (M_Lacquer_spans : Meth K (ad .Lacquer) "spans" f_Lacquer_spans) :
    FnOk P w K mg base (L2.CX P w) 4 f fd ["self", "w"] (spP K ad 2 G_Lacquer_lead) :=
  okX (N := N_Lacquer_lead) (s := B_Lacquer_lead) F sc_Lacquer_lead rfl rfl fun cdv A outer s H E hr =>
    (ss_c (s_if (pp_tcmp op_lt o_lt (pp_v 1 (pv 1)) (pp_c pe_int) (nomark _))
    (ss_1 (s_raise .BadNumber rfl (takes_of rfl rfl rfl rfl) PySem.F.excBase_ValueError T_BadNumber.x T_BadNumber.mg T_BadNumber.kp (raises_own T_BadNumber.b T_BadNumber.t) rfl))
    ss_n)
    (ss_1 (s_ret (pp_2 op_mulB o_mul (pp_2 op_sub o_sub (pp_methS .Lacquer (pp_v 0 (pv 0)) T_Lacquer.cl M_Lacquer_spans O_Lacquer_spans (takes_of rfl rfl rfl rfl) (hr.mono (by decide)) b_Lacquer_spans (pq_c (pp_v 1 (pv 1)) pq_n)) (pp_c pe_int)) (pp_fld .Lacquer 0 rfl T_Lacquer.cl T_Lacquer.n_a (pp_v 0 (pv 0)))))))

theorem ok_Unsound_init {cc cda : Addr} {oc ccl cl dV kV doc pm ct : Value} {od cdd cld an : Option Addr} {osl ccs csl : Array (Option Value)} {vs : Array Value} {file : Str} {tf : Tok} {cdD : ClassData} {f : Addr} (T_Unsound : S_Unsound K mg (ad .Unsound)) (look : K.lookup f = some ⟨oc, od, .func (PySem.W.ksFn "__init__" "Unsound.__init__" (defArgs s_Unsound_init) (defBody s_Unsound_init) (defScope s_Unsound_init) dV kV doc pm an (.ref cda) ct cc), osl⟩) (code : PySem.W.codeIn K (.ref cda) "Unsound.__init__" = true)
    (hcode : K.lookup cda = some ⟨ccl, cdd, .fields vs, ccs⟩) (hvs : vs[2]? = some (.str file tf)) (hfile : ((P.main.file : Str) == file) = true) (hcell : K.lookup cc = some ⟨cl, cld, .cell (some (.ref (ad .Unsound))), csl⟩) (hD : PySem.W.clsIn K (ad .Unsound) = some cdD) (hsub : PySem.W.mroIn K (ad .Unsound) (.ref (ad .Unsound)) = some true) (z_super : mg "super" = none)
    (htop : (P.main.scope.names.lookup ("super" : Str)).isSome = false) (hop : PySem.W.nsIn K PySem.cStatics "thirdparty.any" = some none) (hsup : PySem.W.ks_superIn K (ad .Unsound) (ad .Unsound) "__init__" = some (some (.builtin "ValueError.__init__"))) (hVE : PySem.W.subIn K (.ref (ad .Unsound)) (.type "ValueError") = some true) (hin : PySem.W.excInitIn K (ad .Unsound) EX.bmVE "ValueError.__new__" = true) :
    FnOk P w K mg base CX0 1 f (PySem.W.ksFn "__init__" "Unsound.__init__" (defArgs s_Unsound_init) (defBody s_Unsound_init) (defScope s_Unsound_init) dV kV doc pm an (.ref cda) ct cc) [EX.sfS, "kind"] (EX.spE K (ad .Unsound) "kind") :=
  EX.ok_exI (k := 0) (x := "kind") look code rfl rfl hcode hvs hfile hcell hD hsub z_super rfl rfl rfl rfl (by decide) (by decide) (EX.free1 (by decide)) rfl rfl rfl htop hop hsup hVE hin T_Unsound.ox T_Unsound.n_kind rfl (fun _ => rfl) (fun _ => rfl) (fun _ => rfl) (fun _ => ⟨_, rfl⟩) (by decide) (by decide)
    (fun X hN hS hK hr => hK ▸ EX.he_3 hN hS rfl (by decide) (by decide) hr (by decide +kernel) (by decide +kernel))

theorem ok_f_fault {f : Addr} {fd : FuncData} (F : L2.Fun K "_fault" "_fault" s_f_fault f fd)
    (T_Lacquer : S_Lacquer K mg (ad .Lacquer))
    (g_CLOSE : ∃ u, mg "CLOSE" = some u ∧ RelV (.str "close") u)
    (g_LONG : ∃ u, mg "LONG" = some u ∧ RelV (.str "long") u) :
    FnOk P w K mg base CX0 1 f fd ["lacquer", "w"] (spP K ad 2 G_f_fault) :=
  ok0 (N := N_f_fault) (s := B_f_fault) F sc_f_fault rfl rfl fun cdv A outer s H E hr =>
    (ss_c (s_if (pp_tcmp op_ge o_ge (pp_v 1 (pv 1)) (pp_fld .Lacquer 1 rfl T_Lacquer.cl T_Lacquer.n_b (pp_v 0 (pv 0))) (nomark _))
    (ss_1 (s_ret (pp_c (C8.pe_gc (by rfl) g_LONG))))
    ss_n)
    (ss_1 (s_ret (pp_c (C8.pe_gc (by rfl) g_CLOSE)))))

theorem ok_f_is_sound_kind {f : Addr} {fd : FuncData} (F : L2.Fun K "is_sound_kind" "is_sound_kind" s_f_is_sound_kind f fd)
    (T_Lacquer : S_Lacquer K mg (ad .Lacquer))
    {f_Lacquer_lead : Addr} {fd_Lacquer_lead : FuncData} (O_Lacquer_lead : FnOk P w K mg base (L2.CX P w) 4 f_Lacquer_lead fd_Lacquer_lead ["self", "w"] (spP K ad 2 G_Lacquer_lead)) (b_Lacquer_lead : Binds K fd_Lacquer_lead ["self", "w"] []) (M_Lacquer_lead : Meth K (ad .Lacquer) "lead" f_Lacquer_lead) :
    FnOk P w K mg base (L2.CX P w) 5 f fd ["lacquer", "w", "g"] (spP K ad 3 G_f_is_sound_kind) :=
  okX (N := N_f_is_sound_kind) (s := B_f_is_sound_kind) F sc_f_is_sound_kind rfl rfl fun cdv A outer s H E hr =>
    (ss_1 (s_ret (pp_van (pp_cmp op_lt o_lt (pp_v 1 (pv 1)) (pp_fld .Lacquer 1 rfl T_Lacquer.cl T_Lacquer.n_b (pp_v 0 (pv 0))) (nomark _)) (pe_one (pp_cmp op_gt o_gt (pp_v 2 (pv 2)) (pp_methS .Lacquer (pp_v 0 (pv 0)) T_Lacquer.cl M_Lacquer_lead O_Lacquer_lead (takes_of rfl rfl rfl rfl) (hr.mono (by decide)) b_Lacquer_lead (pq_c (pp_v 1 (pv 1)) pq_n)) (nomark _))))))

theorem ok_f_bad_kinds {f : Addr} {fd : FuncData} (F : L2.Fun K "bad_kinds" "bad_kinds" s_f_bad_kinds f fd)
    (T_Climate : S_Climate K mg (ad .Climate))
    {f_f_fault : Addr} {fd_f_fault : FuncData} (O_f_fault : FnOk P w K mg base CX0 1 f_f_fault fd_f_fault ["lacquer", "w"] (spP K ad 2 G_f_fault)) (m_f_fault : mg "_fault" = some (.ref f_f_fault)) (k_f_fault : PySem.W.keepIn K (.ref f_f_fault) = true) (b_f_fault : Binds K fd_f_fault ["lacquer", "w"] [])
    {f_f_is_sound_kind : Addr} {fd_f_is_sound_kind : FuncData} (O_f_is_sound_kind : FnOk P w K mg base (L2.CX P w) 5 f_f_is_sound_kind fd_f_is_sound_kind ["lacquer", "w", "g"] (spP K ad 3 G_f_is_sound_kind)) (m_f_is_sound_kind : mg "is_sound_kind" = some (.ref f_f_is_sound_kind)) (k_f_is_sound_kind : PySem.W.keepIn K (.ref f_f_is_sound_kind) = true) (b_f_is_sound_kind : Binds K fd_f_is_sound_kind ["lacquer", "w", "g"] [])
    {f_Climate_iter : Addr} {fd_Climate_iter : FuncData} (O_Climate_iter : OW.FnS P w K mg base 1 f_Climate_iter fd_Climate_iter ["self"] (spIt K (ad .Climate) "kinds")) (b_Climate_iter : Binds K fd_Climate_iter ["self"] []) (M_Climate_iter : Meth K (ad .Climate) "__iter__" f_Climate_iter) :
    FnOk P w K mg base (L2.CX P w) 6 f fd ["lacquer", "climate"] (spP K ad 2 G_f_bad_kinds) :=
  okX (N := N_f_bad_kinds) (s := B_f_bad_kinds) F sc_f_bad_kinds rfl rfl fun cdv A outer s H E hr =>
    (ss_1 (s_ret (pp_lc (own := [("w", 2), ("g", 3)]) (by rfl) sc_f_bad_kinds.nd (pi_o .Climate 0 rfl (pp_v 1 (pv 1)) M_Climate_iter O_Climate_iter (hr.mono (by decide)) b_Climate_iter) (blkOk_by (N := N_f_bad_kinds) (sc := defScope s_f_bad_kinds) (by decide +kernel)) (fun _ _ _ _ _ => (g_t rfl rfl (gs_c (g_n (i := 2) sc_f_bad_kinds.nd rfl (by first | exact Or.inl rfl | exact Or.inr rfl)) (gs_c (g_n (i := 3) sc_f_bad_kinds.nd rfl (by first | exact Or.inl rfl | exact Or.inr rfl)) gs_n)))) (fun _ _ _ _ _ => (pts_1 (pp_tno (pp_tval (pp_call O_f_is_sound_kind (hr.mono (by decide)) (by rfl) m_f_is_sound_kind k_f_is_sound_kind b_f_is_sound_kind .nil passL (pq_c (pp_v 0 (pv 0)) (pq_c (pp_v 2 (pv 2)) (pq_c (pp_v 3 (pv 3)) pq_n))) .nil))))) (fun _ _ _ _ _ => (pp_tup (pd_c (pp_v 2 (pv 2)) (pd_c (pp_v 3 (pv 3)) (pd_c (pp_call O_f_fault (hr.mono (by decide)) (by rfl) m_f_fault k_f_fault b_f_fault .nil pass0 (pq_c (pp_v 0 (pv 0)) (pq_c (pp_v 2 (pv 2)) pq_n)) .nil) pd_n))))))))

theorem ok_f_check_sound {f : Addr} {fd : FuncData} (F : L2.Fun K "check_sound" "check_sound" s_f_check_sound f fd)
    (T_Unsound : S_Unsound K mg (ad .Unsound))
    {f_f_bad_kinds : Addr} {fd_f_bad_kinds : FuncData} (O_f_bad_kinds : FnOk P w K mg base (L2.CX P w) 6 f_f_bad_kinds fd_f_bad_kinds ["lacquer", "climate"] (spP K ad 2 G_f_bad_kinds)) (m_f_bad_kinds : mg "bad_kinds" = some (.ref f_f_bad_kinds)) (k_f_bad_kinds : PySem.W.keepIn K (.ref f_f_bad_kinds) = true) (b_f_bad_kinds : Binds K fd_f_bad_kinds ["lacquer", "climate"] [])
    {f_Unsound_init : Addr} {fd_Unsound_init : FuncData} (O_Unsound_init : FnOk P w K mg base CX0 1 f_Unsound_init fd_Unsound_init [EX.sfS, "kind"] (EX.spE K (ad .Unsound) "kind")) (b_Unsound_init : Binds K fd_Unsound_init [EX.sfS, "kind"] []) (IC_Unsound_init : PySem.W.findIn K (.ref (ad .Unsound)) "__init__" = some (some (.ref f_Unsound_init))) (TI_Unsound_init : PySem.W.typeIn K (.ref f_Unsound_init) = some (.type "function")) :
    FnOk P w K mg base (L2.CX P w) 7 f fd ["lacquer", "climate"] (spP K ad 2 G_f_check_sound) :=
  okX (N := N_f_check_sound) (s := B_f_check_sound) F sc_f_check_sound rfl rfl fun cdv A outer s H E hr =>
    (ss_c (s_set (i := 2) sc_f_check_sound.nd rfl (by first | exact Or.inl rfl | exact Or.inr rfl) (pp_callS O_f_bad_kinds (takes_of rfl rfl rfl rfl) (hr.mono (by decide)) (by rfl) m_f_bad_kinds k_f_bad_kinds b_f_bad_kinds (pq_c (pp_v 0 (pv 0)) (pq_c (pp_v 1 (pv 1)) pq_n))))
    (ss_1 (s_if (pp_ttr rfl (pp_v 2 (pv 2)))
    (ss_c (s_asgT (pp_ix rfl (pp_v 2 (pv 2)) (pp_c pe_int) (fun _ _ => rfl)) (g_t rfl rfl (gs_c (g_n (i := 3) sc_f_check_sound.nd rfl (by first | exact Or.inl rfl | exact Or.inr rfl)) (gs_c (g_n (i := 4) sc_f_check_sound.nd rfl (by first | exact Or.inl rfl | exact Or.inr rfl)) (gs_c (g_n (i := 5) sc_f_check_sound.nd rfl (by first | exact Or.inl rfl | exact Or.inr rfl)) gs_n)))))
    (ss_1 (s_raiseP .Unsound rfl rfl (takes_of rfl rfl rfl rfl) T_Unsound.ox IC_Unsound_init TI_Unsound_init O_Unsound_init rfl (hr.mono (by decide)) b_Unsound_init T_Unsound.mg (by rfl) (pp_tup (pd_c (pp_v 3 (pv 3)) (pd_c (pp_v 4 (pv 4)) pd_n))))))
    ss_n)))

theorem ok_f_lead_of {f : Addr} {fd : FuncData} (F : L2.Fun K "lead_of" "lead_of" s_f_lead_of f fd)
    (T_Climate : S_Climate K mg (ad .Climate))
    (T_Lacquer : S_Lacquer K mg (ad .Lacquer))
    (z_max : mg "max" = none)
    {f_Climate_iter : Addr} {fd_Climate_iter : FuncData} (O_Climate_iter : OW.FnS P w K mg base 1 f_Climate_iter fd_Climate_iter ["self"] (spIt K (ad .Climate) "kinds")) (b_Climate_iter : Binds K fd_Climate_iter ["self"] []) (M_Climate_iter : Meth K (ad .Climate) "__iter__" f_Climate_iter)
    {f_Lacquer_lead : Addr} {fd_Lacquer_lead : FuncData} (O_Lacquer_lead : FnOk P w K mg base (L2.CX P w) 4 f_Lacquer_lead fd_Lacquer_lead ["self", "w"] (spP K ad 2 G_Lacquer_lead)) (b_Lacquer_lead : Binds K fd_Lacquer_lead ["self", "w"] []) (M_Lacquer_lead : Meth K (ad .Lacquer) "lead" f_Lacquer_lead) :
    FnOk P w K mg base (L2.CX P w) 5 f fd ["lacquer", "climate"] (spP K ad 2 G_f_lead_of) :=
  okX (N := N_f_lead_of) (s := B_f_lead_of) F sc_f_lead_of rfl rfl fun cdv A outer s H E hr =>
    (ss_1 (s_ret (pp_maxD rfl hr.units rfl (by rfl) z_max (pd_c (pp_lc (own := [("w", 2), ("g", 3)]) (by rfl) sc_f_lead_of.nd (pi_o .Climate 0 rfl (pp_v 1 (pv 1)) M_Climate_iter O_Climate_iter (hr.mono (by decide)) b_Climate_iter) (blkOk_by (N := N_f_lead_of) (sc := defScope s_f_lead_of) (by decide +kernel)) (fun _ _ _ _ _ => (g_t rfl rfl (gs_c (g_n (i := 2) sc_f_lead_of.nd rfl (by first | exact Or.inl rfl | exact Or.inr rfl)) (gs_c (g_n (i := 3) sc_f_lead_of.nd rfl (by first | exact Or.inl rfl | exact Or.inr rfl)) gs_n)))) (fun _ _ _ _ _ => pts_n) (fun _ _ _ _ _ => (pp_meth .Lacquer (pp_v 0 (pv 0)) T_Lacquer.cl M_Lacquer_lead O_Lacquer_lead (hr.mono (by decide)) b_Lacquer_lead passL (pq_c (pp_v 2 (pv 2)) pq_n)))) pd_n) (pp_c pe_int))))

theorem ok_f_trap {f : Addr} {fd : FuncData} (F : L2.Fun K "trap" "trap" s_f_trap f fd)
    (T_Climate : S_Climate K mg (ad .Climate))
    (T_Lacquer : S_Lacquer K mg (ad .Lacquer))
    {f_f_check_sound : Addr} {fd_f_check_sound : FuncData} (O_f_check_sound : FnOk P w K mg base (L2.CX P w) 7 f_f_check_sound fd_f_check_sound ["lacquer", "climate"] (spP K ad 2 G_f_check_sound)) (m_f_check_sound : mg "check_sound" = some (.ref f_f_check_sound)) (k_f_check_sound : PySem.W.keepIn K (.ref f_f_check_sound) = true) (b_f_check_sound : Binds K fd_f_check_sound ["lacquer", "climate"] [])
    {f_f_lead_of : Addr} {fd_f_lead_of : FuncData} (O_f_lead_of : FnOk P w K mg base (L2.CX P w) 5 f_f_lead_of fd_f_lead_of ["lacquer", "climate"] (spP K ad 2 G_f_lead_of)) (m_f_lead_of : mg "lead_of" = some (.ref f_f_lead_of)) (k_f_lead_of : PySem.W.keepIn K (.ref f_f_lead_of) = true) (b_f_lead_of : Binds K fd_f_lead_of ["lacquer", "climate"] [])
    {f_Climate_iter : Addr} {fd_Climate_iter : FuncData} (O_Climate_iter : OW.FnS P w K mg base 1 f_Climate_iter fd_Climate_iter ["self"] (spIt K (ad .Climate) "kinds")) (b_Climate_iter : Binds K fd_Climate_iter ["self"] []) (M_Climate_iter : Meth K (ad .Climate) "__iter__" f_Climate_iter)
    {f_Lacquer_lead : Addr} {fd_Lacquer_lead : FuncData} (O_Lacquer_lead : FnOk P w K mg base (L2.CX P w) 4 f_Lacquer_lead fd_Lacquer_lead ["self", "w"] (spP K ad 2 G_Lacquer_lead)) (b_Lacquer_lead : Binds K fd_Lacquer_lead ["self", "w"] []) (M_Lacquer_lead : Meth K (ad .Lacquer) "lead" f_Lacquer_lead) :
    FnOk P w K mg base (L2.CX P w) 8 f fd ["lacquer", "climate", "sight"] (spP K ad 3 G_f_trap) :=
  okX (N := N_f_trap) (s := B_f_trap) F sc_f_trap rfl rfl fun cdv A outer s H E hr =>
    (ss_c (s_ex (pp_callS O_f_check_sound (takes_of rfl rfl rfl rfl) (hr.mono (by decide)) (by rfl) m_f_check_sound k_f_check_sound b_f_check_sound (pq_c (pp_v 0 (pv 0)) (pq_c (pp_v 1 (pv 1)) pq_n))))
    (ss_c (s_set (i := 3) sc_f_trap.nd rfl (by first | exact Or.inl rfl | exact Or.inr rfl) (pp_callS O_f_lead_of (takes_of rfl rfl rfl rfl) (hr.mono (by decide)) (by rfl) m_f_lead_of k_f_lead_of b_f_lead_of (pq_c (pp_v 0 (pv 0)) (pq_c (pp_v 1 (pv 1)) pq_n))))
    (ss_c (s_if (pp_tcmp op_ge o_ge (pp_v 2 (pv 2)) (pp_v 3 (pv 3)) (nomark _))
    (ss_1 (s_ret (pp_c pe_non)))
    ss_n)
    (ss_c (s_asgT (pp_ix rfl (pp_lc (own := [("kind", 6)]) (by rfl) sc_f_trap.nd (pi_o .Climate 0 rfl (pp_v 1 (pv 1)) M_Climate_iter O_Climate_iter (hr.mono (by decide)) b_Climate_iter) (blkOk_by (N := N_f_trap) (sc := defScope s_f_trap) (by decide +kernel)) (fun _ _ _ _ _ => (g_n (i := 6) sc_f_trap.nd rfl (by first | exact Or.inl rfl | exact Or.inr rfl))) (fun _ _ _ _ _ => (pts_1 (pp_tcmp (op_eqB hr.units) o_eq (pp_meth .Lacquer (pp_v 0 (pv 0)) T_Lacquer.cl M_Lacquer_lead O_Lacquer_lead (hr.mono (by decide)) b_Lacquer_lead passL (pq_c (pp_ix rfl (pp_v 6 (pv 6)) (pp_c pe_int) (fun _ _ => rfl)) pq_n)) (pp_v 3 (pv 3)) (nomark _)))) (fun _ _ _ _ _ => (pp_v 6 (pv 6)))) (pp_c pe_int) (fun _ _ => rfl)) (g_t rfl rfl (gs_c (g_n (i := 4) sc_f_trap.nd rfl (by first | exact Or.inl rfl | exact Or.inr rfl)) (gs_c (g_n (i := 5) sc_f_trap.nd rfl (by first | exact Or.inl rfl | exact Or.inr rfl)) gs_n))))
    (ss_1 (s_ret (pp_tup (pd_c (pp_v 4 (pv 4)) (pd_c (pp_v 5 (pv 5)) (pd_c (pp_v 3 (pv 3)) pd_n))))))))))

theorem ok_l_up {f : Addr} {fd : FuncData} (F : L2.Fun K "_law_up" "_law_up" s_l_up f fd)
     :
    FnOk P w K mg base CX0 1 f fd ["x", "y"] (spP K ad 2 G_l_up) :=
  ok0 (N := N_l_up) (s := B_l_up) F sc_l_up rfl rfl fun cdv A outer s H E hr =>
    (ss_1 (s_ret (pp_2 op_divB o_div (pp_2 op_sub o_sub (pp_2 op_add o_add (pp_v 0 (pv 0)) (pp_v 1 (pv 1))) (pp_c pe_int)) (pp_v 1 (pv 1)))))

theorem ok_l_lead {f : Addr} {fd : FuncData} (F : L2.Fun K "_law_lead" "_law_lead" s_l_lead f fd)
    {f_l_up : Addr} {fd_l_up : FuncData} (O_l_up : FnOk P w K mg base CX0 1 f_l_up fd_l_up ["x", "y"] (spP K ad 2 G_l_up)) (m_l_up : mg "_law_up" = some (.ref f_l_up)) (k_l_up : PySem.W.keepIn K (.ref f_l_up) = true) (b_l_up : Binds K fd_l_up ["x", "y"] []) :
    FnOk P w K mg base CX0 2 f fd ["a", "b", "w"] (spP K ad 3 G_l_lead) :=
  ok0 (N := N_l_lead) (s := B_l_lead) F sc_l_lead rfl rfl fun cdv A outer s H E hr =>
    (ss_1 (s_ret (pp_2 op_mulB o_mul (pp_2 op_sub o_sub (pp_call O_l_up (hr.mono (by decide)) (by rfl) m_l_up k_l_up b_l_up .nil pass0 (pq_c (pp_v 2 (pv 2)) (pq_c (pp_2 op_sub o_sub (pp_v 1 (pv 1)) (pp_v 0 (pv 0))) pq_n)) .nil) (pp_c pe_int)) (pp_v 0 (pv 0)))))

theorem ok_l_take {f : Addr} {fd : FuncData} (F : L2.Fun K "_law_take" "_law_take" s_l_take f fd)
    (z_int : mg "int" = none) :
    FnOk P w K mg base CX0 1 f fd ["pool", "size"] (spP K ad 2 G_l_take) :=
  ok0 (N := N_l_take) (s := B_l_take) F sc_l_take rfl rfl fun cdv A outer s H E hr =>
    (ss_c (s_setI 0 (pv 0) (pp_c pe_int) (pp_2 op_add o_add (look_v 0 (pp_ix rfl (pp_v 0 (pv 0)) (pp_c pe_int) (fun _ _ => rfl))) (pp_c pe_int)))
    (ss_c (s_if (pp_tcmp op_gt o_gt (look_v 0 (pp_ix rfl (pp_v 0 (pv 0)) (pp_c pe_int) (fun _ _ => rfl))) (pp_c pe_int) (nomark _))
    (ss_c (s_set (i := 2) sc_l_take.nd rfl (by first | exact Or.inl rfl | exact Or.inr rfl) (pp_2 op_mod o_mod (pp_T ob_int OW.c_int1 (by rfl) z_int (by decide +kernel) (pd_c (look_v 0 (pp_ix rfl (pp_v 0 (pv 0)) (pp_c pe_int) (fun _ _ => rfl))) pd_n)) (pp_v 1 (pv 1))))
    (ss_c (s_setI 0 (pv 0) (pp_c pe_int) (pp_2 op_divB o_div (look_v 0 (pp_ix rfl (pp_v 0 (pv 0)) (pp_c pe_int) (fun _ _ => rfl))) (pp_v 1 (pv 1))))
    (ss_1 (s_ret (pp_v 2 (pv 2))))))
    ss_n)
    (ss_c (s_set (i := 3) sc_l_take.nd rfl (by first | exact Or.inl rfl | exact Or.inr rfl) (pp_2 op_mod o_mod (pp_T ob_int OW.c_int1 (by rfl) z_int (by decide +kernel) (pd_c (pp_2 op_add o_add (pp_2 op_add o_add (look_v 0 (pp_ix rfl (pp_v 0 (pv 0)) (pp_c pe_int) (fun _ _ => rfl))) (pp_2 op_mulB o_mul (pp_c pe_int) (look_v 0 (pp_ix rfl (pp_v 0 (pv 0)) (pp_c pe_int) (fun _ _ => rfl))))) (pp_c pe_int)) pd_n)) (pp_c pe_int)))
    (ss_c (s_set (i := 3) sc_l_take.nd rfl (by first | exact Or.inl rfl | exact Or.inr rfl) (pp_2 op_mod o_mod (pp_T ob_int OW.c_int1 (by rfl) z_int (by decide +kernel) (pd_c (pp_2 op_add o_add (pp_2 op_add o_add (pp_2 op_mulB o_mul (pp_v 3 (pv 3)) (pp_v 3 (pv 3))) (pp_2 op_mulB o_mul (pp_c pe_int) (look_v 0 (pp_ix rfl (pp_v 0 (pv 0)) (pp_c pe_int) (fun _ _ => rfl))))) (pp_c pe_int)) pd_n)) (pp_c pe_int)))
    (ss_c (s_set (i := 3) sc_l_take.nd rfl (by first | exact Or.inl rfl | exact Or.inr rfl) (pp_2 op_mod o_mod (pp_T ob_int OW.c_int1 (by rfl) z_int (by decide +kernel) (pd_c (pp_2 op_add o_add (pp_2 op_add o_add (pp_2 op_mulB o_mul (pp_v 3 (pv 3)) (pp_v 3 (pv 3))) (pp_2 op_mulB o_mul (pp_c pe_int) (look_v 0 (pp_ix rfl (pp_v 0 (pv 0)) (pp_c pe_int) (fun _ _ => rfl))))) (pp_c pe_int)) pd_n)) (pp_c pe_int)))
    (ss_1 (s_ret (pp_2 op_mod o_mod (pp_T ob_int OW.c_int1 (by rfl) z_int (by decide +kernel) (pd_c (pp_2 op_divB o_div (pp_v 3 (pv 3)) (pp_c pe_int)) pd_n)) (pp_v 1 (pv 1))))))))))

theorem ok_l_bad {f : Addr} {fd : FuncData} (F : L2.Fun K "_law_bad" "_law_bad" s_l_bad f fd)
    (z_min : mg "min" = none)
    {f_l_lead : Addr} {fd_l_lead : FuncData} (O_l_lead : FnOk P w K mg base CX0 2 f_l_lead fd_l_lead ["a", "b", "w"] (spP K ad 3 G_l_lead)) (m_l_lead : mg "_law_lead" = some (.ref f_l_lead)) (k_l_lead : PySem.W.keepIn K (.ref f_l_lead) = true) (b_l_lead : Binds K fd_l_lead ["a", "b", "w"] [])
    {f_l_take : Addr} {fd_l_take : FuncData} (O_l_take : FnOk P w K mg base CX0 1 f_l_take fd_l_take ["pool", "size"] (spP K ad 2 G_l_take)) (m_l_take : mg "_law_take" = some (.ref f_l_take)) (k_l_take : PySem.W.keepIn K (.ref f_l_take) = true) (b_l_take : Binds K fd_l_take ["pool", "size"] []) :
    FnOk P w K mg base CX0 3 f fd ["pool", "ab", "need"] (spP K ad 3 G_l_bad) :=
  ok0 (N := N_l_bad) (s := B_l_bad) F sc_l_bad rfl rfl fun cdv A outer s H E hr =>
    (ss_c (s_set (i := 3) sc_l_bad.nd rfl (by first | exact Or.inl rfl | exact Or.inr rfl) (pp_2 op_add o_add (pp_c pe_int) (pp_call O_l_take (hr.mono (by decide)) (by rfl) m_l_take k_l_take b_l_take .nil pass0 (pq_k 0 (pv 0) (pq_c (pp_ix rfl (pp_v 1 (pv 1)) (pp_c pe_int) (fun _ _ => rfl)) pq_n)) .nil)))
    (ss_c (s_set (i := 4) sc_l_bad.nd rfl (by first | exact Or.inl rfl | exact Or.inr rfl) (pp_call O_l_lead (hr.mono (by decide)) (by rfl) m_l_lead k_l_lead b_l_lead .nil pass0 (pq_c (pp_ix rfl (pp_v 1 (pv 1)) (pp_c pe_int) (fun _ _ => rfl)) (pq_c (pp_ix rfl (pp_v 1 (pv 1)) (pp_c pe_int) (fun _ _ => rfl)) (pq_c (pp_v 3 (pv 3)) pq_n))) .nil))
    (ss_c (s_if (PW.pt (pp_wan (pp_tcmp op_lt o_lt (pp_v 3 (pv 3)) (pp_ix rfl (pp_v 1 (pv 1)) (pp_c pe_int) (fun _ _ => rfl)) (nomark _)) (pw_and1 (pp_tcmp op_gt o_gt (pp_v 4 (pv 4)) (pp_c pe_int) (nomark _)))))
    (ss_1 (s_ret (pp_tup (pd_c (pp_v 3 (pv 3)) (pd_c (pp_2 op_add o_add (pp_c pe_int) (pp_call O_l_take (hr.mono (by decide)) (by rfl) m_l_take k_l_take b_l_take .nil pass0 (pq_k 0 (pv 0) (pq_c (pp_B ob_min2 (OW.c_min2 rfl) (by rfl) z_min (by decide +kernel) (pd_c (pp_v 4 (pv 4)) (pd_c (pp_v 2 (pv 2)) pd_n))) pq_n)) .nil)) pd_n)))))
    ss_n)
    (ss_1 (s_ret (pp_tup (pd_c (pp_2 op_add o_add (pp_ix rfl (pp_v 1 (pv 1)) (pp_c pe_int) (fun _ _ => rfl)) (pp_call O_l_take (hr.mono (by decide)) (by rfl) m_l_take k_l_take b_l_take .nil pass0 (pq_k 0 (pv 0) (pq_c (pp_2 op_sub o_sub (pp_c pe_int) (pp_ix rfl (pp_v 1 (pv 1)) (pp_c pe_int) (fun _ _ => rfl))) pq_n)) .nil)) (pd_c (pp_2 op_add o_add (pp_c pe_int) (pp_call O_l_take (hr.mono (by decide)) (by rfl) m_l_take k_l_take b_l_take .nil pass0 (pq_k 0 (pv 0) (pq_c (pp_v 2 (pv 2)) pq_n)) .nil)) pd_n))))))))

theorem ok_l_head {f : Addr} {fd : FuncData} (F : L2.Fun K "_law_head" "_law_head" s_l_head f fd)
    (z_max : mg "max" = none)
    {f_l_lead : Addr} {fd_l_lead : FuncData} (O_l_lead : FnOk P w K mg base CX0 2 f_l_lead fd_l_lead ["a", "b", "w"] (spP K ad 3 G_l_lead)) (m_l_lead : mg "_law_lead" = some (.ref f_l_lead)) (k_l_lead : PySem.W.keepIn K (.ref f_l_lead) = true) (b_l_lead : Binds K fd_l_lead ["a", "b", "w"] []) :
    FnOk P w K mg base CX0 3 f fd ["a", "b", "kinds"] (spP K ad 3 G_l_head) :=
  ok0 (N := N_l_head) (s := B_l_head) F sc_l_head rfl rfl fun cdv A outer s H E hr =>
    (ss_c (s_set (i := 3) sc_l_head.nd rfl (by first | exact Or.inl rfl | exact Or.inr rfl) (pp_c pe_int))
    (ss_c (s_for PassesOwn.never rfl (pi_l rfl (pp_v 2 (pv 2))) (g_n (i := 4) sc_l_head.nd rfl (by first | exact Or.inl rfl | exact Or.inr rfl))
    (ss_1 (s_set (i := 3) sc_l_head.nd rfl (by first | exact Or.inl rfl | exact Or.inr rfl) (pp_B ob_max2 (OW.c_max2 rfl) (by rfl) z_max (by decide +kernel) (pd_c (pp_v 3 (pv 3)) (pd_c (pp_call O_l_lead (hr.mono (by decide)) (by rfl) m_l_lead k_l_lead b_l_lead .nil pass0 (pq_c (pp_v 0 (pv 0)) (pq_c (pp_v 1 (pv 1)) (pq_c (pp_ix rfl (pp_v 4 (pv 4)) (pp_c pe_int) (fun _ _ => rfl)) pq_n))) .nil) pd_n))))))
    (ss_1 (s_ret (pp_v 3 (pv 3))))))

theorem ok_l_rows {f : Addr} {fd : FuncData} (F : L2.Fun K "_law_rows" "_law_rows" s_l_rows f fd)
    (z_range : mg "range" = none)
    {f_l_take : Addr} {fd_l_take : FuncData} (O_l_take : FnOk P w K mg base CX0 1 f_l_take fd_l_take ["pool", "size"] (spP K ad 2 G_l_take)) (m_l_take : mg "_law_take" = some (.ref f_l_take)) (k_l_take : PySem.W.keepIn K (.ref f_l_take) = true) (b_l_take : Binds K fd_l_take ["pool", "size"] []) :
    FnOk P w K mg base CX0 2 f fd ["pool", "sight"] (spP K ad 2 G_l_rows) :=
  ok0 (N := N_l_rows) (s := B_l_rows) F sc_l_rows rfl rfl fun cdv A outer s H E hr =>
    (ss_c (s_setC (i := 2) sc_l_rows.nd rfl (by first | exact Or.inl rfl | exact Or.inr rfl) (pp_lst pd_n))
    (ss_c (s_for PassesOwn.never rfl (pi_r1 (by rfl) z_range (pp_call O_l_take (hr.mono (by decide)) (by rfl) m_l_take k_l_take b_l_take .nil pass0 (pq_k 0 (pv 0) (pq_c (pp_c pe_int) pq_n)) .nil)) (g_n (i := 3) sc_l_rows.nd rfl (by first | exact Or.inl rfl | exact Or.inr rfl))
    (ss_c (s_set (i := 4) sc_l_rows.nd rfl (by first | exact Or.inl rfl | exact Or.inr rfl) (pp_call O_l_take (hr.mono (by decide)) (by rfl) m_l_take k_l_take b_l_take .nil pass0 (pq_k 0 (pv 0) (pq_c (pp_ix rfl (pp_lst (pd_c (pp_c pe_int) (pd_c (pp_c pe_int) (pd_c (pp_c pe_int) pd_n)))) (pp_call O_l_take (hr.mono (by decide)) (by rfl) m_l_take k_l_take b_l_take .nil pass0 (pq_k 0 (pv 0) (pq_c (pp_c pe_int) pq_n)) .nil) (fun _ _ => rfl)) pq_n)) .nil))
    (ss_c (s_set (i := 5) sc_l_rows.nd rfl (by first | exact Or.inl rfl | exact Or.inr rfl) (pp_2 op_add o_add (pp_c pe_int) (pp_call O_l_take (hr.mono (by decide)) (by rfl) m_l_take k_l_take b_l_take .nil pass0 (pq_k 0 (pv 0) (pq_c (pp_ix rfl (pp_lst (pd_c (pp_c pe_int) (pd_c (pp_c pe_int) (pd_c (pp_c pe_int) pd_n)))) (pp_call O_l_take (hr.mono (by decide)) (by rfl) m_l_take k_l_take b_l_take .nil pass0 (pq_k 0 (pv 0) (pq_c (pp_c pe_int) pq_n)) .nil) (fun _ _ => rfl)) pq_n)) .nil)))
    (ss_c (s_set (i := 6) sc_l_rows.nd rfl (by first | exact Or.inl rfl | exact Or.inr rfl) (pp_join rfl (pp_c pe_str) (pp_lc (own := [("i", 7)]) (by rfl) sc_l_rows.nd (pi_r1 (by rfl) z_range (pp_v 1 (pv 1))) (blkOk_by (N := N_l_rows) (sc := defScope s_l_rows) (by decide +kernel)) (fun _ _ _ _ _ => (g_n (i := 7) sc_l_rows.nd rfl (by first | exact Or.inl rfl | exact Or.inr rfl))) (fun _ _ _ _ _ => pts_n) (fun _ _ _ _ _ => (pp_ix rfl (pp_c pe_str) (pp_call O_l_take (hr.mono (by decide)) (by rfl) m_l_take k_l_take b_l_take .nil pass0 (pq_k 0 (pv 0) (pq_c (pp_c pe_int) pq_n)) .nil) (fun _ _ => rfl))))))
    (ss_1 (s_ex (pp_bmL 2 rfl ol_app PySem.F.plainAttrs_list PySem.F.slot_list_append PySem.F.type_list_append mt_append (pv 2) (pd_c (pp_tup (pd_c (pp_v 4 (pv 4)) (pd_c (pp_v 5 (pv 5)) (pd_c (pp_v 6 (pv 6)) (pd_c (pp_cmp (op_eqB hr.units) o_eq (pp_call O_l_take (hr.mono (by decide)) (by rfl) m_l_take k_l_take b_l_take .nil pass0 (pq_k 0 (pv 0) (pq_c (pp_c pe_int) pq_n)) .nil) (pp_c pe_int) (nomark _)) pd_n))))) pd_n))))))))
    (ss_1 (s_ret (pp_m 2 (pv 2))))))

theorem ok_l_sound_kinds {f : Addr} {fd : FuncData} (F : L2.Fun K "_law_sound_kinds" "_law_sound_kinds" s_l_sound_kinds f fd)
    (z_min : mg "min" = none)
    (z_range : mg "range" = none)
    {f_l_lead : Addr} {fd_l_lead : FuncData} (O_l_lead : FnOk P w K mg base CX0 2 f_l_lead fd_l_lead ["a", "b", "w"] (spP K ad 3 G_l_lead)) (m_l_lead : mg "_law_lead" = some (.ref f_l_lead)) (k_l_lead : PySem.W.keepIn K (.ref f_l_lead) = true) (b_l_lead : Binds K fd_l_lead ["a", "b", "w"] [])
    {f_l_take : Addr} {fd_l_take : FuncData} (O_l_take : FnOk P w K mg base CX0 1 f_l_take fd_l_take ["pool", "size"] (spP K ad 2 G_l_take)) (m_l_take : mg "_law_take" = some (.ref f_l_take)) (k_l_take : PySem.W.keepIn K (.ref f_l_take) = true) (b_l_take : Binds K fd_l_take ["pool", "size"] []) :
    FnOk P w K mg base CX0 3 f fd ["pool", "ab", "most", "peak", "need"] (spP K ad 5 G_l_sound_kinds) :=
  ok0 (N := N_l_sound_kinds) (s := B_l_sound_kinds) F sc_l_sound_kinds rfl rfl fun cdv A outer s H E hr =>
    (ss_c (s_set (i := 5) sc_l_sound_kinds.nd rfl (by first | exact Or.inl rfl | exact Or.inr rfl) (pp_ix rfl (pp_v 1 (pv 1)) (pp_c pe_int) (fun _ _ => rfl)))
    (ss_c (s_set (i := 6) sc_l_sound_kinds.nd rfl (by first | exact Or.inl rfl | exact Or.inr rfl) (pp_ix rfl (pp_v 1 (pv 1)) (pp_c pe_int) (fun _ _ => rfl)))
    (ss_c (s_set (i := 7) sc_l_sound_kinds.nd rfl (by first | exact Or.inl rfl | exact Or.inr rfl) (pp_B ob_min3 (OW.c_min3 rfl) (by rfl) z_min (by decide +kernel) (pd_c (pp_v 3 (pv 3)) (pd_c (pp_2 op_sub o_sub (pp_v 6 (pv 6)) (pp_c pe_int)) (pd_c (pp_2 op_mulB o_mul (pp_2 op_add o_add (pp_2 op_divB o_div (pp_2 op_sub o_sub (pp_v 4 (pv 4)) (pp_c pe_int)) (pp_v 5 (pv 5))) (pp_c pe_int)) (pp_2 op_sub o_sub (pp_v 6 (pv 6)) (pp_v 5 (pv 5)))) pd_n)))))
    (ss_c (s_setC (i := 8) sc_l_sound_kinds.nd rfl (by first | exact Or.inl rfl | exact Or.inr rfl) (pp_lst pd_n))
    (ss_c (s_for PassesOwn.never rfl (pi_r1 (by rfl) z_range (pp_call O_l_take (hr.mono (by decide)) (by rfl) m_l_take k_l_take b_l_take .nil pass0 (pq_k 0 (pv 0) (pq_c (pp_2 op_add o_add (pp_v 2 (pv 2)) (pp_c pe_int)) pq_n)) .nil)) (g_n (i := 9) sc_l_sound_kinds.nd rfl (by first | exact Or.inl rfl | exact Or.inr rfl))
    (ss_c (s_set (i := 10) sc_l_sound_kinds.nd rfl (by first | exact Or.inl rfl | exact Or.inr rfl) (pp_2 op_add o_add (pp_c pe_int) (pp_call O_l_take (hr.mono (by decide)) (by rfl) m_l_take k_l_take b_l_take .nil pass0 (pq_k 0 (pv 0) (pq_c (pp_v 7 (pv 7)) pq_n)) .nil)))
    (ss_c (s_set (i := 11) sc_l_sound_kinds.nd rfl (by first | exact Or.inl rfl | exact Or.inr rfl) (pp_call O_l_lead (hr.mono (by decide)) (by rfl) m_l_lead k_l_lead b_l_lead .nil pass0 (pq_c (pp_v 5 (pv 5)) (pq_c (pp_v 6 (pv 6)) (pq_c (pp_v 10 (pv 10)) pq_n))) .nil))
    (ss_1 (s_ex (pp_bmL 8 rfl ol_app PySem.F.plainAttrs_list PySem.F.slot_list_append PySem.F.type_list_append mt_append (pv 8) (pd_c (pp_tup (pd_c (pp_v 10 (pv 10)) (pd_c (pp_2 op_add o_add (pp_2 op_add o_add (pp_v 11 (pv 11)) (pp_c pe_int)) (pp_call O_l_take (hr.mono (by decide)) (by rfl) m_l_take k_l_take b_l_take .nil pass0 (pq_k 0 (pv 0) (pq_c (pp_2 op_sub o_sub (pp_v 4 (pv 4)) (pp_v 11 (pv 11))) pq_n)) .nil)) pd_n))) pd_n)))))))
    (ss_1 (s_ret (pp_m 8 (pv 8)))))))))

theorem ok_l_steep {f : Addr} {fd : FuncData} (F : L2.Fun K "_law_steep" "_law_steep" s_l_steep f fd)
    (z_min : mg "min" = none)
    {f_l_lead : Addr} {fd_l_lead : FuncData} (O_l_lead : FnOk P w K mg base CX0 2 f_l_lead fd_l_lead ["a", "b", "w"] (spP K ad 3 G_l_lead)) (m_l_lead : mg "_law_lead" = some (.ref f_l_lead)) (k_l_lead : PySem.W.keepIn K (.ref f_l_lead) = true) (b_l_lead : Binds K fd_l_lead ["a", "b", "w"] [])
    {f_l_take : Addr} {fd_l_take : FuncData} (O_l_take : FnOk P w K mg base CX0 1 f_l_take fd_l_take ["pool", "size"] (spP K ad 2 G_l_take)) (m_l_take : mg "_law_take" = some (.ref f_l_take)) (k_l_take : PySem.W.keepIn K (.ref f_l_take) = true) (b_l_take : Binds K fd_l_take ["pool", "size"] []) :
    FnOk P w K mg base CX0 3 f fd ["pool", "ab", "peak", "need"] (spP K ad 4 G_l_steep) :=
  ok0 (N := N_l_steep) (s := B_l_steep) F sc_l_steep rfl rfl fun cdv A outer s H E hr =>
    (ss_c (s_set (i := 4) sc_l_steep.nd rfl (by first | exact Or.inl rfl | exact Or.inr rfl) (pp_2 op_sub o_sub (pp_ix rfl (pp_v 1 (pv 1)) (pp_c pe_int) (fun _ _ => rfl)) (pp_ix rfl (pp_v 1 (pv 1)) (pp_c pe_int) (fun _ _ => rfl))))
    (ss_c (s_set (i := 5) sc_l_steep.nd rfl (by first | exact Or.inl rfl | exact Or.inr rfl) (pp_B ob_min3 (OW.c_min3 rfl) (by rfl) z_min (by decide +kernel) (pd_c (pp_v 2 (pv 2)) (pd_c (pp_2 op_sub o_sub (pp_ix rfl (pp_v 1 (pv 1)) (pp_c pe_int) (fun _ _ => rfl)) (pp_c pe_int)) (pd_c (pp_2 op_mulB o_mul (pp_2 op_add o_add (pp_2 op_divB o_div (pp_2 op_sub o_sub (pp_v 3 (pv 3)) (pp_c pe_int)) (pp_ix rfl (pp_v 1 (pv 1)) (pp_c pe_int) (fun _ _ => rfl))) (pp_c pe_int)) (pp_v 4 (pv 4))) pd_n)))))
    (ss_c (s_set (i := 6) sc_l_steep.nd rfl (by first | exact Or.inl rfl | exact Or.inr rfl) (pp_v 5 (pv 5)))
    (ss_c (s_if (pp_tcmp op_gt o_gt (pp_v 5 (pv 5)) (pp_v 4 (pv 4)) (nomark _))
    (ss_1 (s_set (i := 6) sc_l_steep.nd rfl (by first | exact Or.inl rfl | exact Or.inr rfl) (pp_2 op_add o_add (pp_2 op_add o_add (pp_v 4 (pv 4)) (pp_c pe_int)) (pp_call O_l_take (hr.mono (by decide)) (by rfl) m_l_take k_l_take b_l_take .nil pass0 (pq_k 0 (pv 0) (pq_c (pp_2 op_sub o_sub (pp_v 5 (pv 5)) (pp_v 4 (pv 4))) pq_n)) .nil))))
    ss_n)
    (ss_c (s_set (i := 7) sc_l_steep.nd rfl (by first | exact Or.inl rfl | exact Or.inr rfl) (pp_call O_l_lead (hr.mono (by decide)) (by rfl) m_l_lead k_l_lead b_l_lead .nil pass0 (pq_c (pp_ix rfl (pp_v 1 (pv 1)) (pp_c pe_int) (fun _ _ => rfl)) (pq_c (pp_ix rfl (pp_v 1 (pv 1)) (pp_c pe_int) (fun _ _ => rfl)) (pq_c (pp_v 6 (pv 6)) pq_n))) .nil))
    (ss_1 (s_ret (pp_tup (pd_c (pp_v 6 (pv 6)) (pd_c (pp_2 op_add o_add (pp_2 op_add o_add (pp_v 7 (pv 7)) (pp_c pe_int)) (pp_call O_l_take (hr.mono (by decide)) (by rfl) m_l_take k_l_take b_l_take .nil pass0 (pq_k 0 (pv 0) (pq_c (pp_2 op_sub o_sub (pp_v 3 (pv 3)) (pp_v 7 (pv 7))) pq_n)) .nil)) pd_n))))))))))

theorem ok_l_case {f : Addr} {fd : FuncData} (F : L2.Fun K "_law_case" "_law_case" s_l_case f fd)
    (z_int : mg "int" = none)
    (z_len : mg "len" = none)
    (z_max : mg "max" = none)
    (z_min : mg "min" = none)
    {f_l_bad : Addr} {fd_l_bad : FuncData} (O_l_bad : FnOk P w K mg base CX0 3 f_l_bad fd_l_bad ["pool", "ab", "need"] (spP K ad 3 G_l_bad)) (m_l_bad : mg "_law_bad" = some (.ref f_l_bad)) (k_l_bad : PySem.W.keepIn K (.ref f_l_bad) = true) (b_l_bad : Binds K fd_l_bad ["pool", "ab", "need"] [])
    {f_l_head : Addr} {fd_l_head : FuncData} (O_l_head : FnOk P w K mg base CX0 3 f_l_head fd_l_head ["a", "b", "kinds"] (spP K ad 3 G_l_head)) (m_l_head : mg "_law_head" = some (.ref f_l_head)) (k_l_head : PySem.W.keepIn K (.ref f_l_head) = true) (b_l_head : Binds K fd_l_head ["a", "b", "kinds"] [])
    {f_l_rows : Addr} {fd_l_rows : FuncData} (O_l_rows : FnOk P w K mg base CX0 2 f_l_rows fd_l_rows ["pool", "sight"] (spP K ad 2 G_l_rows)) (m_l_rows : mg "_law_rows" = some (.ref f_l_rows)) (k_l_rows : PySem.W.keepIn K (.ref f_l_rows) = true) (b_l_rows : Binds K fd_l_rows ["pool", "sight"] [])
    {f_l_sound_kinds : Addr} {fd_l_sound_kinds : FuncData} (O_l_sound_kinds : FnOk P w K mg base CX0 3 f_l_sound_kinds fd_l_sound_kinds ["pool", "ab", "most", "peak", "need"] (spP K ad 5 G_l_sound_kinds)) (m_l_sound_kinds : mg "_law_sound_kinds" = some (.ref f_l_sound_kinds)) (k_l_sound_kinds : PySem.W.keepIn K (.ref f_l_sound_kinds) = true) (b_l_sound_kinds : Binds K fd_l_sound_kinds ["pool", "ab", "most", "peak", "need"] [])
    {f_l_steep : Addr} {fd_l_steep : FuncData} (O_l_steep : FnOk P w K mg base CX0 3 f_l_steep fd_l_steep ["pool", "ab", "peak", "need"] (spP K ad 4 G_l_steep)) (m_l_steep : mg "_law_steep" = some (.ref f_l_steep)) (k_l_steep : PySem.W.keepIn K (.ref f_l_steep) = true) (b_l_steep : Binds K fd_l_steep ["pool", "ab", "peak", "need"] [])
    {f_l_take : Addr} {fd_l_take : FuncData} (O_l_take : FnOk P w K mg base CX0 1 f_l_take fd_l_take ["pool", "size"] (spP K ad 2 G_l_take)) (m_l_take : mg "_law_take" = some (.ref f_l_take)) (k_l_take : PySem.W.keepIn K (.ref f_l_take) = true) (b_l_take : Binds K fd_l_take ["pool", "size"] []) :
    FnOk P w K mg base CX0 4 f fd ["pool"] (spP K ad 1 G_l_case) :=
  ok0 (N := N_l_case) (s := B_l_case) F sc_l_case rfl rfl fun cdv A outer s H E hr =>
    (ss_c (s_set (i := 1) sc_l_case.nd rfl (by first | exact Or.inl rfl | exact Or.inr rfl) (pp_T ob_int OW.c_int1 (by rfl) z_int (by decide +kernel) (pd_c (pp_cmp (op_eqB hr.units) o_eq (pp_call O_l_take (hr.mono (by decide)) (by rfl) m_l_take k_l_take b_l_take .nil pass0 (pq_k 0 (pv 0) (pq_c (pp_c pe_int) pq_n)) .nil) (pp_c pe_int) (nomark _)) pd_n)))
    (ss_c (s_set (i := 2) sc_l_case.nd rfl (by first | exact Or.inl rfl | exact Or.inr rfl) (pp_2 op_add o_add (pp_c pe_int) (pp_2 op_mulB o_mul (pp_c pe_int) (pp_v 1 (pv 1)))))
    (ss_c (s_set (i := 3) sc_l_case.nd rfl (by first | exact Or.inl rfl | exact Or.inr rfl) (pp_2 op_add o_add (pp_c pe_int) (pp_2 op_mulB o_mul (pp_c pe_int) (pp_v 1 (pv 1)))))
    (ss_c (s_set (i := 4) sc_l_case.nd rfl (by first | exact Or.inl rfl | exact Or.inr rfl) (pp_2 op_add o_add (pp_c pe_int) (pp_2 op_mulB o_mul (pp_c pe_int) (pp_v 1 (pv 1)))))
    (ss_c (s_set (i := 5) sc_l_case.nd rfl (by first | exact Or.inl rfl | exact Or.inr rfl) (pp_2 op_add o_add (pp_c pe_int) (pp_call O_l_take (hr.mono (by decide)) (by rfl) m_l_take k_l_take b_l_take .nil pass0 (pq_k 0 (pv 0) (pq_c (pp_2 op_sub o_sub (pp_v 2 (pv 2)) (pp_c pe_int)) pq_n)) .nil)))
    (ss_c (s_if (pp_tcmp (op_eqB hr.units) o_eq (pp_call O_l_take (hr.mono (by decide)) (by rfl) m_l_take k_l_take b_l_take .nil pass0 (pq_k 0 (pv 0) (pq_c (pp_c pe_int) pq_n)) .nil) (pp_c pe_int) (nomark _))
    (ss_1 (s_set (i := 5) sc_l_case.nd rfl (by first | exact Or.inl rfl | exact Or.inr rfl) (pp_c pe_int)))
    ss_n)
    (ss_c (s_set (i := 6) sc_l_case.nd rfl (by first | exact Or.inl rfl | exact Or.inr rfl) (pp_tup (pd_c (pp_v 5 (pv 5)) (pd_c (pp_2 op_add o_add (pp_2 op_add o_add (pp_v 5 (pv 5)) (pp_c pe_int)) (pp_call O_l_take (hr.mono (by decide)) (by rfl) m_l_take k_l_take b_l_take .nil pass0 (pq_k 0 (pv 0) (pq_c (pp_2 op_sub o_sub (pp_v 2 (pv 2)) (pp_v 5 (pv 5))) pq_n)) .nil)) pd_n))))
    (ss_c (s_setC (i := 7) sc_l_case.nd rfl (by first | exact Or.inl rfl | exact Or.inr rfl) (pp_call O_l_sound_kinds (hr.mono (by decide)) (by rfl) m_l_sound_kinds k_l_sound_kinds b_l_sound_kinds .nil pass0 (pq_k 0 (pv 0) (pq_c (pp_v 6 (pv 6)) (pq_c (pp_c pe_int) (pq_c (pp_v 3 (pv 3)) (pq_c (pp_v 4 (pv 4)) pq_n))))) .nil))
    (ss_c (s_ex (pp_bmL 7 rfl ol_ins PySem.F.plainAttrs_list PySem.F.slot_list_insert PySem.F.type_list_insert OW.m_ins (pv 7) (pd_c (pp_call O_l_take (hr.mono (by decide)) (by rfl) m_l_take k_l_take b_l_take .nil pass0 (pq_k 0 (pv 0) (pq_c (pp_2 op_add o_add (look_v 7 (pp_B ob_len (c_lenA rfl) (by rfl) z_len (by decide +kernel) (pd_c (pp_v 7 (pv 7)) pd_n))) (pp_c pe_int)) pq_n)) .nil) (pd_c (pp_call O_l_steep (hr.mono (by decide)) (by rfl) m_l_steep k_l_steep b_l_steep .nil pass0 (pq_k 0 (pv 0) (pq_c (pp_v 6 (pv 6)) (pq_c (pp_v 3 (pv 3)) (pq_c (pp_v 4 (pv 4)) pq_n)))) .nil) pd_n))))
    (ss_c (s_set (i := 8) sc_l_case.nd rfl (by first | exact Or.inl rfl | exact Or.inr rfl) (look_v 7 (pp_call O_l_head (hr.mono (by decide)) (by rfl) m_l_head k_l_head b_l_head .nil pass0 (pq_c (pp_ix rfl (pp_v 6 (pv 6)) (pp_c pe_int) (fun _ _ => rfl)) (pq_c (pp_ix rfl (pp_v 6 (pv 6)) (pp_c pe_int) (fun _ _ => rfl)) (pq_c (pp_v 7 (pv 7)) pq_n))) .nil)))
    (ss_c (s_set (i := 9) sc_l_case.nd rfl (by first | exact Or.inl rfl | exact Or.inr rfl) (pp_call O_l_take (hr.mono (by decide)) (by rfl) m_l_take k_l_take b_l_take .nil pass0 (pq_k 0 (pv 0) (pq_c (pp_B ob_min2 (OW.c_min2 rfl) (by rfl) z_min (by decide +kernel) (pd_c (pp_c pe_int) (pd_c (pp_B ob_max2 (OW.c_max2 rfl) (by rfl) z_max (by decide +kernel) (pd_c (pp_c pe_int) (pd_c (pp_v 8 (pv 8)) pd_n))) pd_n))) pq_n)) .nil))
    (ss_c (s_if (pp_tcmp (op_eqB hr.units) o_eq (pp_call O_l_take (hr.mono (by decide)) (by rfl) m_l_take k_l_take b_l_take .nil pass0 (pq_k 0 (pv 0) (pq_c (pp_c pe_int) pq_n)) .nil) (pp_c pe_int) (nomark _))
    (ss_1 (s_set (i := 9) sc_l_case.nd rfl (by first | exact Or.inl rfl | exact Or.inr rfl) (pp_B ob_min2 (OW.c_min2 rfl) (by rfl) z_min (by decide +kernel) (pd_c (pp_c pe_int) (pd_c (pp_2 op_add o_add (pp_v 8 (pv 8)) (pp_call O_l_take (hr.mono (by decide)) (by rfl) m_l_take k_l_take b_l_take .nil pass0 (pq_k 0 (pv 0) (pq_c (pp_c pe_int) pq_n)) .nil)) pd_n)))))
    ss_n)
    (ss_c (s_set (i := 10) sc_l_case.nd rfl (by first | exact Or.inl rfl | exact Or.inr rfl) (pp_call O_l_rows (hr.mono (by decide)) (by rfl) m_l_rows k_l_rows b_l_rows .nil pass0 (pq_k 0 (pv 0) (pq_c (pp_v 9 (pv 9)) pq_n)) .nil))
    (ss_c (s_if (pp_tcmp (op_eqB hr.units) o_eq (pp_call O_l_take (hr.mono (by decide)) (by rfl) m_l_take k_l_take b_l_take .nil pass0 (pq_k 0 (pv 0) (pq_c (pp_c pe_int) pq_n)) .nil) (pp_c pe_int) (nomark _))
    (ss_1 (s_ex (pp_bmL 7 rfl ol_ins PySem.F.plainAttrs_list PySem.F.slot_list_insert PySem.F.type_list_insert OW.m_ins (pv 7) (pd_c (pp_call O_l_take (hr.mono (by decide)) (by rfl) m_l_take k_l_take b_l_take .nil pass0 (pq_k 0 (pv 0) (pq_c (pp_2 op_add o_add (look_v 7 (pp_B ob_len (c_lenA rfl) (by rfl) z_len (by decide +kernel) (pd_c (pp_v 7 (pv 7)) pd_n))) (pp_c pe_int)) pq_n)) .nil) (pd_c (pp_call O_l_bad (hr.mono (by decide)) (by rfl) m_l_bad k_l_bad b_l_bad .nil pass0 (pq_k 0 (pv 0) (pq_c (pp_v 6 (pv 6)) (pq_c (pp_v 4 (pv 4)) pq_n))) .nil) pd_n)))))
    ss_n)
    (ss_1 (s_ret (pp_tup (pd_c (pp_v 6 (pv 6)) (pd_c (pp_f 7 (pv 7)) (pd_c (pp_v 9 (pv 9)) (pd_c (pp_v 10 (pv 10)) pd_n)))))))))))))))))))))

theorem ok_l_cell {f : Addr} {fd : FuncData} (F : L2.Fun K "_law_cell" "_law_cell" s_l_cell f fd)
    (z_len : mg "len" = none) :
    FnOk P w K mg base CX0 1 f fd ["script", "k"] (spP K ad 2 G_l_cell) :=
  ok0 (N := N_l_cell) (s := B_l_cell) F sc_l_cell rfl rfl fun cdv A outer s H E hr =>
    (ss_c (s_if (pp_tcmp op_lt o_lt (pp_v 1 (pv 1)) (pp_B ob_len (c_lenA rfl) (by rfl) z_len (by decide +kernel) (pd_c (pp_v 0 (pv 0)) pd_n)) (nomark _))
    (ss_1 (s_ret (pp_ix rfl (pp_v 0 (pv 0)) (pp_v 1 (pv 1)) (fun _ _ => rfl))))
    ss_n)
    (ss_1 (s_ret (pp_2 op_add o_add (pp_2 op_mulB o_mul (pp_c pe_int) (pp_v 1 (pv 1))) (pp_c pe_int)))))

theorem ok_l_fault {f : Addr} {fd : FuncData} (F : L2.Fun K "_law_fault" "_law_fault" s_l_fault f fd)
    {f_l_lead : Addr} {fd_l_lead : FuncData} (O_l_lead : FnOk P w K mg base CX0 2 f_l_lead fd_l_lead ["a", "b", "w"] (spP K ad 3 G_l_lead)) (m_l_lead : mg "_law_lead" = some (.ref f_l_lead)) (k_l_lead : PySem.W.keepIn K (.ref f_l_lead) = true) (b_l_lead : Binds K fd_l_lead ["a", "b", "w"] []) :
    FnOk P w K mg base CX0 3 f fd ["a", "b", "kind"] (spP K ad 3 G_l_fault) :=
  ok0 (N := N_l_fault) (s := B_l_fault) F sc_l_fault rfl rfl fun cdv A outer s H E hr =>
    (ss_c (s_if (pp_tcmp op_ge o_ge (pp_ix rfl (pp_v 2 (pv 2)) (pp_c pe_int) (fun _ _ => rfl)) (pp_v 1 (pv 1)) (nomark _))
    (ss_1 (s_ret (pp_c pe_str)))
    ss_n)
    (ss_c (s_if (pp_tcmp op_le o_le (pp_ix rfl (pp_v 2 (pv 2)) (pp_c pe_int) (fun _ _ => rfl)) (pp_call O_l_lead (hr.mono (by decide)) (by rfl) m_l_lead k_l_lead b_l_lead .nil pass0 (pq_c (pp_v 0 (pv 0)) (pq_c (pp_v 1 (pv 1)) (pq_c (pp_ix rfl (pp_v 2 (pv 2)) (pp_c pe_int) (fun _ _ => rfl)) pq_n))) .nil) (nomark _))
    (ss_1 (s_ret (pp_c pe_str)))
    ss_n)
    (ss_1 (s_ret (pp_c pe_str)))))

theorem ok_l_least_run {f : Addr} {fd : FuncData} (F : L2.Fun K "_law_least_run" "_law_least_run" s_l_least_run f fd)
     :
    FnOk P w K mg base CX0 1 f fd ["kinds", "w"] (spP K ad 2 G_l_least_run) :=
  ok0 (N := N_l_least_run) (s := B_l_least_run) F sc_l_least_run rfl rfl fun cdv A outer s H E hr =>
    (ss_c (s_set (i := 2) sc_l_least_run.nd rfl (by first | exact Or.inl rfl | exact Or.inr rfl) (pp_c pe_int))
    (ss_c (s_for PassesOwn.never rfl (pi_l rfl (pp_v 0 (pv 0))) (g_n (i := 3) sc_l_least_run.nd rfl (by first | exact Or.inl rfl | exact Or.inr rfl))
    (ss_1 (s_if (PW.pt (pp_wan (pp_tcmp op_ge o_ge (pp_ix rfl (pp_v 3 (pv 3)) (pp_c pe_int) (fun _ _ => rfl)) (pp_v 1 (pv 1)) (nomark _)) (pw_and1 (PW.pt (pp_woo (pp_tcmp (op_eqB hr.units) o_eq (pp_v 2 (pv 2)) (pp_c pe_int) (nomark _)) (pw_or1 (pp_tcmp op_lt o_lt (pp_ix rfl (pp_v 3 (pv 3)) (pp_c pe_int) (fun _ _ => rfl)) (pp_v 2 (pv 2)) (nomark _))))))))
    (ss_1 (s_set (i := 2) sc_l_least_run.nd rfl (by first | exact Or.inl rfl | exact Or.inr rfl) (pp_ix rfl (pp_v 3 (pv 3)) (pp_c pe_int) (fun _ _ => rfl))))
    ss_n)))
    (ss_1 (s_ret (pp_v 2 (pv 2))))))

theorem ok_l_plain {f : Addr} {fd : FuncData} (F : L2.Fun K "_law_plain" "_law_plain" s_l_plain f fd)
    (z_range : mg "range" = none)
    {f_l_least_run : Addr} {fd_l_least_run : FuncData} (O_l_least_run : FnOk P w K mg base CX0 1 f_l_least_run fd_l_least_run ["kinds", "w"] (spP K ad 2 G_l_least_run)) (m_l_least_run : mg "_law_least_run" = some (.ref f_l_least_run)) (k_l_least_run : PySem.W.keepIn K (.ref f_l_least_run) = true) (b_l_least_run : Binds K fd_l_least_run ["kinds", "w"] []) :
    FnOk P w K mg base CX0 2 f fd ["kinds"] (spP K ad 1 G_l_plain) :=
  ok0 (N := N_l_plain) (s := B_l_plain) F sc_l_plain rfl rfl fun cdv A outer s H E hr =>
    (ss_c (s_setC (i := 1) sc_l_plain.nd rfl (by first | exact Or.inl rfl | exact Or.inr rfl) (pp_lst pd_n))
    (ss_c (s_for PassesOwn.never rfl (pi_r2 (by rfl) z_range (pp_c pe_int) (pp_c pe_int)) (g_n (i := 2) sc_l_plain.nd rfl (by first | exact Or.inl rfl | exact Or.inr rfl))
    (ss_c (s_set (i := 3) sc_l_plain.nd rfl (by first | exact Or.inl rfl | exact Or.inr rfl) (pp_call O_l_least_run (hr.mono (by decide)) (by rfl) m_l_least_run k_l_least_run b_l_least_run .nil pass0 (pq_c (pp_v 0 (pv 0)) (pq_c (pp_v 2 (pv 2)) pq_n)) .nil))
    (ss_1 (s_if (PW.pt (pp_wan (pp_tcmp op_gt o_gt (pp_v 3 (pv 3)) (pp_c pe_int) (nomark _)) (pw_and1 (pp_tcmp (op_neB hr.units) o_ne (pp_v 3 (pv 3)) (pp_call O_l_least_run (hr.mono (by decide)) (by rfl) m_l_least_run k_l_least_run b_l_least_run .nil pass0 (pq_c (pp_v 0 (pv 0)) (pq_c (pp_2 op_add o_add (pp_v 2 (pv 2)) (pp_c pe_int)) pq_n)) .nil) (nomark _)))))
    (ss_1 (s_ex (pp_bmL 1 rfl ol_app PySem.F.plainAttrs_list PySem.F.slot_list_append PySem.F.type_list_append mt_append (pv 1) (pd_c (pp_tup (pd_c (pp_v 2 (pv 2)) (pd_c (pp_v 3 (pv 3)) pd_n))) pd_n))))
    ss_n))))
    (ss_1 (s_ret (pp_m 1 (pv 1))))))

theorem ok_l_pool {f : Addr} {fd : FuncData} (F : L2.Fun K "_law_pool" "_law_pool" s_l_pool f fd)
    (z_int : mg "int" = none) :
    FnOk P w K mg base CX0 1 f fd ["cell"] (spP K ad 1 G_l_pool) :=
  ok0 (N := N_l_pool) (s := B_l_pool) F sc_l_pool rfl rfl fun cdv A outer s H E hr =>
    (ss_c (s_if (pp_tcmp op_ge o_ge (pp_v 0 (pv 0)) (pp_2 op_pow o_pow (pp_c pe_int) (pp_c pe_int)) (nomark _))
    (ss_1 (s_ret (pp_lst (pd_c (pp_2 op_sub o_sub (pp_v 0 (pv 0)) (pp_2 op_pow o_pow (pp_c pe_int) (pp_c pe_int))) (pd_c (pp_2 op_mod o_mod (pp_T ob_int OW.c_int1 (by rfl) z_int (by decide +kernel) (pd_c (pp_v 0 (pv 0)) pd_n)) (pp_c pe_int)) (pd_c (pp_c pe_int) pd_n))))))
    ss_n)
    (ss_c (s_if (pp_tcmp op_lt o_lt (pp_v 0 (pv 0)) (pp_c pe_int) (nomark _))
    (ss_1 (s_ret (pp_lst (pd_c (pp_c pe_int) (pd_c (pp_2 op_mod o_mod (pp_T ob_int OW.c_int1 (by rfl) z_int (by decide +kernel) (pd_c (pp_2 op_sub o_sub (pp_c pe_int) (pp_2 op_mulB o_mul (pp_c pe_int) (pp_v 0 (pv 0)))) pd_n)) (pp_c pe_int)) (pd_c (pp_c pe_int) pd_n))))))
    ss_n)
    (ss_1 (s_ret (pp_lst (pd_c (pp_c pe_int) (pd_c (pp_2 op_mod o_mod (pp_T ob_int OW.c_int1 (by rfl) z_int (by decide +kernel) (pd_c (pp_2 op_mulB o_mul (pp_c pe_int) (pp_v 0 (pv 0))) pd_n)) (pp_c pe_int)) (pd_c (pp_c pe_int) pd_n))))))))

theorem ok_l_same {f : Addr} {fd : FuncData} (F : L2.Fun K "_law_same" "_law_same" s_l_same f fd) (m_l_same : mg "_law_same" = some (.ref f)) (k_l_same : PySem.W.keepIn K (.ref f) = true) (b_l_same : Binds K fd ["actual", "due"] [])
    (z_bool : mg "bool" = none)
    (z_int : mg "int" = none)
    (z_isinstance : mg "isinstance" = none)
    (z_len : mg "len" = none)
    (z_list : mg "list" = none)
    (z_range : mg "range" = none)
    (z_str : mg "str" = none)
    (z_tuple : mg "tuple" = none)
    (kit_NoneType_bool : PySem.W.kitOne K (.type "NoneType") (.type "bool") = some false)
    (kit_NoneType_int : PySem.W.kitOne K (.type "NoneType") (.type "int") = some false)
    (kit_NoneType_list : PySem.W.kitOne K (.type "NoneType") (.type "list") = some false)
    (kit_NoneType_str : PySem.W.kitOne K (.type "NoneType") (.type "str") = some false)
    (kit_NoneType_tuple : PySem.W.kitOne K (.type "NoneType") (.type "tuple") = some false)
    (kit_int_bool : PySem.W.kitOne K (.type "int") (.type "bool") = some false)
    (kit_int_int : PySem.W.kitOne K (.type "int") (.type "int") = some true)
    (kit_int_list : PySem.W.kitOne K (.type "int") (.type "list") = some false)
    (kit_int_str : PySem.W.kitOne K (.type "int") (.type "str") = some false)
    (kit_int_tuple : PySem.W.kitOne K (.type "int") (.type "tuple") = some false)
    (kit_str_bool : PySem.W.kitOne K (.type "str") (.type "bool") = some false)
    (kit_str_int : PySem.W.kitOne K (.type "str") (.type "int") = some false)
    (kit_str_list : PySem.W.kitOne K (.type "str") (.type "list") = some false)
    (kit_str_str : PySem.W.kitOne K (.type "str") (.type "str") = some true)
    (kit_str_tuple : PySem.W.kitOne K (.type "str") (.type "tuple") = some false)
    (kit_tuple_bool : PySem.W.kitOne K (.type "tuple") (.type "bool") = some false)
    (kit_tuple_int : PySem.W.kitOne K (.type "tuple") (.type "int") = some false)
    (kit_tuple_list : PySem.W.kitOne K (.type "tuple") (.type "list") = some false)
    (kit_tuple_str : PySem.W.kitOne K (.type "tuple") (.type "str") = some false)
    (kit_tuple_tuple : PySem.W.kitOne K (.type "tuple") (.type "tuple") = some true) (n : Nat) :
    FnOk P w K mg base CX0 (1 + n) f fd ["actual", "due"] (spP K ad 2 (GR_l_same n)) := by
  induction n with
  | zero => exact fn_none
  | succ n ih => exact ok0 (N := N_l_same) (s := B_l_same (GR_l_same n)) F sc_l_same rfl rfl fun cdv A outer s H E hr =>
    (ss_c (s_if (pp_tcmp op_isNN o_is (pp_v 1 (pv 1)) (pp_c pe_non) (nomark _))
    (ss_1 (s_ret (pp_cmp op_isNN o_is (pp_v 0 (pv 0)) (pp_c pe_non) (nomark _))))
    ss_n)
    (ss_c (s_if (pp_tval (pp_isi rfl (.b kit_tuple_bool (.b kit_str_bool (.b kit_int_bool (.b kit_NoneType_bool .nil)))) (.ty _) (by rfl) z_isinstance (pp_v 1 (pv 1)) (pe_bltn (v := .ty "bool") (by rfl) z_bool (by decide +kernel) rfl)))
    (ss_1 (s_ret (pp_van (pp_isi rfl (.b kit_tuple_bool (.b kit_str_bool (.b kit_int_bool (.b kit_NoneType_bool .nil)))) (.ty _) (by rfl) z_isinstance (pp_v 0 (pv 0)) (pe_bltn (v := .ty "bool") (by rfl) z_bool (by decide +kernel) rfl)) (pe_one (pp_cmp (op_eqB hr.units) o_eq (pp_v 0 (pv 0)) (pp_v 1 (pv 1)) (nomark _))))))
    ss_n)
    (ss_c (s_if (pp_tval (pp_isi rfl (.b kit_tuple_int (.b kit_str_int (.b kit_int_int (.b kit_NoneType_int .nil)))) (.ty _) (by rfl) z_isinstance (pp_v 1 (pv 1)) (pe_bltn (v := .ty "int") (by rfl) z_int (by decide +kernel) rfl)))
    (ss_1 (s_ret (pp_van (pp_isi rfl (.b kit_tuple_int (.b kit_str_int (.b kit_int_int (.b kit_NoneType_int .nil)))) (.ty _) (by rfl) z_isinstance (pp_v 0 (pv 0)) (pe_bltn (v := .ty "int") (by rfl) z_int (by decide +kernel) rfl)) (pp_van (pp_vno (pp_isi rfl (.b kit_tuple_bool (.b kit_str_bool (.b kit_int_bool (.b kit_NoneType_bool .nil)))) (.ty _) (by rfl) z_isinstance (pp_v 0 (pv 0)) (pe_bltn (v := .ty "bool") (by rfl) z_bool (by decide +kernel) rfl))) (pe_one (pp_cmp (op_eqB hr.units) o_eq (pp_v 0 (pv 0)) (pp_v 1 (pv 1)) (nomark _)))))))
    ss_n)
    (ss_c (s_if (pp_tval (pp_isi rfl (.b kit_tuple_str (.b kit_str_str (.b kit_int_str (.b kit_NoneType_str .nil)))) (.ty _) (by rfl) z_isinstance (pp_v 1 (pv 1)) (pe_bltn (v := .ty "str") (by rfl) z_str (by decide +kernel) rfl)))
    (ss_1 (s_ret (pp_van (pp_isi rfl (.b kit_tuple_str (.b kit_str_str (.b kit_int_str (.b kit_NoneType_str .nil)))) (.ty _) (by rfl) z_isinstance (pp_v 0 (pv 0)) (pe_bltn (v := .ty "str") (by rfl) z_str (by decide +kernel) rfl)) (pe_one (pp_cmp (op_eqB hr.units) o_eq (pp_v 0 (pv 0)) (pp_v 1 (pv 1)) (nomark _))))))
    ss_n)
    (ss_c (s_if (PW.pt (pp_wan (pp_tval (pp_isi rfl (.b kit_tuple_tuple (.b kit_str_tuple (.b kit_int_tuple (.b kit_NoneType_tuple .nil)))) (.ty _) (by rfl) z_isinstance (pp_v 1 (pv 1)) (pe_bltn (v := .ty "tuple") (by rfl) z_tuple (by decide +kernel) rfl))) (pw_and1 (pp_tno (pp_tval (pp_isi rfl (.b kit_tuple_tuple (.b kit_str_tuple (.b kit_int_tuple (.b kit_NoneType_tuple .nil)))) (.ty _) (by rfl) z_isinstance (pp_v 0 (pv 0)) (pe_bltn (v := .ty "tuple") (by rfl) z_tuple (by decide +kernel) rfl)))))))
    (ss_1 (s_ret (pp_c pe_bl)))
    ss_n)
    (ss_c (s_if (PW.pt (pp_wan (pp_tval (pp_isi rfl (.b kit_tuple_list (.b kit_str_list (.b kit_int_list (.b kit_NoneType_list .nil)))) (.ty _) (by rfl) z_isinstance (pp_v 1 (pv 1)) (pe_bltn (v := .ty "list") (by rfl) z_list (by decide +kernel) rfl))) (pw_and1 (pp_tno (pp_tval (pp_isi rfl (.b kit_tuple_list (.b kit_str_list (.b kit_int_list (.b kit_NoneType_list .nil)))) (.ty _) (by rfl) z_isinstance (pp_v 0 (pv 0)) (pe_bltn (v := .ty "list") (by rfl) z_list (by decide +kernel) rfl)))))))
    (ss_1 (s_ret (pp_c pe_bl)))
    ss_n)
    (ss_c (s_if (pp_tcmp (op_neB hr.units) o_ne (pp_B ob_len (c_lenA rfl) (by rfl) z_len (by decide +kernel) (pd_c (pp_v 0 (pv 0)) pd_n)) (pp_B ob_len (c_lenA rfl) (by rfl) z_len (by decide +kernel) (pd_c (pp_v 1 (pv 1)) pd_n)) (nomark _))
    (ss_1 (s_ret (pp_c pe_bl)))
    ss_n)
    (ss_c (s_for PassesOwn.never rfl (pi_r1 (by rfl) z_range (pp_B ob_len (c_lenA rfl) (by rfl) z_len (by decide +kernel) (pd_c (pp_v 1 (pv 1)) pd_n))) (g_n (i := 2) sc_l_same.nd rfl (by first | exact Or.inl rfl | exact Or.inr rfl))
    (ss_1 (s_if (pp_tno (pp_tval (pp_call ih hr (by rfl) m_l_same k_l_same b_l_same .nil pass0 (pq_c (pp_ix rfl (pp_v 0 (pv 0)) (pp_v 2 (pv 2)) (fun _ _ => rfl)) (pq_c (pp_ix rfl (pp_v 1 (pv 1)) (pp_v 2 (pv 2)) (fun _ _ => rfl)) pq_n)) .nil)))
    (ss_1 (s_ret (pp_c pe_bl)))
    ss_n)))
    (ss_1 (s_ret (pp_c pe_bl)))))))))))

theorem ok_f_matches {f : Addr} {fd : FuncData} (F : L2.Fun K "_matches" "_matches" s_f_matches f fd)
    (z_all : mg "all" = none)
    (z_zip : mg "zip" = none)
    (g_ANY : ∃ u, mg "ANY" = some u ∧ RelV (.str "?") u) :
    FnOk P w K mg base CX0 1 f fd ["text", "signs"] (spP K ad 2 G_f_matches) :=
  ok0 (N := N_f_matches) (s := B_f_matches) F sc_f_matches rfl rfl fun cdv A outer s H E hr =>
    (ss_1 (s_ret (pp_B ob_all (cr_all rfl) (by rfl) z_all (by decide +kernel) (pd_c (pp_lc (own := [("mark", 2), ("sign", 3)]) (by rfl) sc_f_matches.nd (pi_zS rfl (by rfl) z_zip (pp_v 0 (pv 0)) (pp_v 1 (pv 1))) (blkOk_by (N := N_f_matches) (sc := defScope s_f_matches) (by decide +kernel)) (fun _ _ _ _ _ => (g_t rfl rfl (gs_c (g_n (i := 2) sc_f_matches.nd rfl (by first | exact Or.inl rfl | exact Or.inr rfl)) (gs_c (g_n (i := 3) sc_f_matches.nd rfl (by first | exact Or.inl rfl | exact Or.inr rfl)) gs_n)))) (fun _ _ _ _ _ => pts_n) (fun _ _ _ _ _ => (pp_cmp (op_inB rfl) o_in (pp_v 2 (pv 2)) (pp_tup (pd_c (pp_c (C8.pe_gc (by rfl) g_ANY)) (pd_c (pp_v 3 (pv 3)) pd_n))) (by rfl)))) pd_n))))

theorem ok_Habit_call {f : Addr} {fd : FuncData} (F : L2.Fun K "__call__" "Habit.__call__" s_Habit_call f fd)
    (T_Habit : S_Habit K mg (ad .Habit))
    {f_f_matches : Addr} {fd_f_matches : FuncData} (O_f_matches : FnOk P w K mg base CX0 1 f_f_matches fd_f_matches ["text", "signs"] (spP K ad 2 G_f_matches)) (m_f_matches : mg "_matches" = some (.ref f_f_matches)) (k_f_matches : PySem.W.keepIn K (.ref f_f_matches) = true) (b_f_matches : Binds K fd_f_matches ["text", "signs"] []) :
    FnOk P w K mg base CX0 2 f fd ["self", "age", "dry", "ahead"] (spP K ad 4 G_Habit_call) :=
  ok0 (N := N_Habit_call) (s := B_Habit_call) F sc_Habit_call rfl rfl fun cdv A outer s H E hr =>
    (ss_c (s_for PassesOwn.never rfl (pi_t rfl (pp_fld .Habit 1 rfl T_Habit.cl T_Habit.n_rows (pp_v 0 (pv 0)))) (g_t rfl rfl (gs_c (g_n (i := 4) sc_Habit_call.nd rfl (by first | exact Or.inl rfl | exact Or.inr rfl)) (gs_c (g_n (i := 5) sc_Habit_call.nd rfl (by first | exact Or.inl rfl | exact Or.inr rfl)) (gs_c (g_n (i := 6) sc_Habit_call.nd rfl (by first | exact Or.inl rfl | exact Or.inr rfl)) (gs_c (g_n (i := 7) sc_Habit_call.nd rfl (by first | exact Or.inl rfl | exact Or.inr rfl)) gs_n)))))
    (ss_1 (s_if (PW.pt (pp_wan (pp_tcmp (op_inB rfl) o_in (pp_v 4 (pv 4)) (pp_tup (pd_c (pp_c pe_int) (pd_c (pp_v 1 (pv 1)) pd_n))) (by rfl)) (pp_wan (pp_tcmp op_le o_le (pp_v 5 (pv 5)) (pp_v 2 (pv 2)) (nomark _)) (pw_and1 (pp_tval (pp_call O_f_matches (hr.mono (by decide)) (by rfl) m_f_matches k_f_matches b_f_matches .nil pass0 (pq_c (pp_v 6 (pv 6)) (pq_c (pp_v 3 (pv 3)) pq_n)) .nil))))))
    (ss_1 (s_ret (pp_v 7 (pv 7))))
    ss_n)))
    (ss_1 (s_ret (pp_c pe_bl))))

theorem ok_Lacquer_contains {f : Addr} {fd : FuncData} (F : L2.Fun K "__contains__" "Lacquer.__contains__" s_Lacquer_contains f fd)
    (T_Lacquer : S_Lacquer K mg (ad .Lacquer)) :
    FnOk P w K mg base CX0 1 f fd ["self", "step"] (spP K ad 2 G_Lacquer_contains) :=
  ok0 (N := N_Lacquer_contains) (s := B_Lacquer_contains) F sc_Lacquer_contains rfl rfl fun cdv A outer s H E hr =>
    (ss_1 (s_ret (pp_ch2 op_le op_le o_le o_le (pp_fld .Lacquer 0 rfl T_Lacquer.cl T_Lacquer.n_a (pp_v 0 (pv 0))) (pp_v 1 (pv 1)) (pp_fld .Lacquer 1 rfl T_Lacquer.cl T_Lacquer.n_b (pp_v 0 (pv 0))))))

theorem ok_f_lays {f : Addr} {fd : FuncData} (F : L2.Fun K "lays" "lays" s_f_lays f fd)
    (T_Habit : S_Habit K mg (ad .Habit))
    (T_Lacquer : S_Lacquer K mg (ad .Lacquer))
    {f_Habit_call : Addr} {fd_Habit_call : FuncData} (O_Habit_call : FnOk P w K mg base CX0 2 f_Habit_call fd_Habit_call ["self", "age", "dry", "ahead"] (spP K ad 4 G_Habit_call)) (b_Habit_call : Binds K fd_Habit_call ["self", "age", "dry", "ahead"] []) (M_Habit_call : Meth K (ad .Habit) "__call__" f_Habit_call) (fi_Habit_call : PySem.W.fnIn K f_Habit_call = true)
    {f_Lacquer_contains : Addr} {fd_Lacquer_contains : FuncData} (O_Lacquer_contains : FnOk P w K mg base CX0 1 f_Lacquer_contains fd_Lacquer_contains ["self", "step"] (spP K ad 2 G_Lacquer_contains)) (b_Lacquer_contains : Binds K fd_Lacquer_contains ["self", "step"] []) (M_Lacquer_contains : Meth K (ad .Lacquer) "__contains__" f_Lacquer_contains) :
    FnOk P w K mg base CX0 3 f fd ["habit", "steps", "age", "dry", "ahead"] (spP K ad 5 G_f_lays) :=
  ok0 (N := N_f_lays) (s := B_f_lays) F sc_f_lays rfl rfl fun cdv A outer s H E hr =>
    (ss_1 (s_ret (pp_van (pp_cmp op_gt o_gt (pp_v 3 (pv 3)) (pp_c pe_int) (nomark _)) (pp_van (pp_ownin .Lacquer rfl M_Lacquer_contains O_Lacquer_contains (hr.mono (by decide)) b_Lacquer_contains pass0 (pp_v 2 (pv 2)) (pp_v 1 (pv 1)) (by rfl)) (pe_one (pp_callO .Habit (pp_v 0 (pv 0)) M_Habit_call fi_Habit_call O_Habit_call (hr.mono (by decide)) b_Habit_call pass0 (pq_c (pp_v 2 (pv 2)) (pq_c (pp_v 3 (pv 3)) (pq_c (pp_sl rfl (pp_v 4 (pv 4)) pp_pn (pp_ps (pp_fld .Habit 0 rfl T_Habit.cl T_Habit.n_sight (pp_v 0 (pv 0))))) pq_n)))))))))

theorem ok_f_played {f : Addr} {fd : FuncData} (F : L2.Fun K "played" "played" s_f_played f fd)
    (T_Habit : S_Habit K mg (ad .Habit))
    (z_len : mg "len" = none)
    (z_range : mg "range" = none)
    (g_DRY : ∃ u, mg "DRY" = some u ∧ RelV (.str ".") u)
    {f_f_lays : Addr} {fd_f_lays : FuncData} (O_f_lays : FnOk P w K mg base CX0 3 f_f_lays fd_f_lays ["habit", "steps", "age", "dry", "ahead"] (spP K ad 5 G_f_lays)) (m_f_lays : mg "lays" = some (.ref f_f_lays)) (k_f_lays : PySem.W.keepIn K (.ref f_f_lays) = true) (b_f_lays : Binds K fd_f_lays ["habit", "steps", "age", "dry", "ahead"] []) :
    FnOk P w K mg base CX0 4 f fd ["habit", "steps", "farthest", "signs"] (spP K ad 4 G_f_played) :=
  ok0 (N := N_f_played) (s := B_f_played) F sc_f_played rfl rfl fun cdv A outer s H E hr =>
    (ss_c (s_setC (i := 4) sc_f_played.nd rfl (by first | exact Or.inl rfl | exact Or.inr rfl) (pp_lst (pd_c (pp_c pe_int) pd_n)))
    (ss_c (s_set (i := 5) sc_f_played.nd rfl (by first | exact Or.inl rfl | exact Or.inr rfl) (pp_c pe_int))
    (ss_c (s_for PassesOwn.never rfl (pi_r2 (by rfl) z_range (pp_c pe_int) (pp_2 op_add o_add (pp_2 op_sub o_sub (pp_B ob_len (c_lenA rfl) (by rfl) z_len (by decide +kernel) (pd_c (pp_v 3 (pv 3)) pd_n)) (pp_fld .Habit 0 rfl T_Habit.cl T_Habit.n_sight (pp_v 0 (pv 0)))) (pp_c pe_int))) (g_n (i := 6) sc_f_played.nd rfl (by first | exact Or.inl rfl | exact Or.inr rfl))
    (ss_c (s_set (i := 5) sc_f_played.nd rfl (by first | exact Or.inl rfl | exact Or.inr rfl) (pp_vif (pp_tcmp (op_eqB hr.units) o_eq (pp_ix rfl (pp_v 3 (pv 3)) (pp_2 op_sub o_sub (pp_v 6 (pv 6)) (pp_c pe_int)) (fun _ _ => rfl)) (pp_c (C8.pe_gc (by rfl) g_DRY)) (nomark _)) (pp_2 op_add o_add (pp_v 5 (pv 5)) (pp_c pe_int)) (pp_c pe_int)))
    (ss_c (s_set (i := 7) sc_f_played.nd rfl (by first | exact Or.inl rfl | exact Or.inr rfl) (pp_2 op_sub o_sub (pp_v 6 (pv 6)) (look_v 4 (pp_ix rfl (pp_v 4 (pv 4)) (pp_1 un_neg o_neg (pp_c pe_int)) (fun _ _ => rfl)))))
    (ss_1 (s_if (pp_tval (pp_call O_f_lays (hr.mono (by decide)) (by rfl) m_f_lays k_f_lays b_f_lays .nil pass0 (pq_c (pp_v 0 (pv 0)) (pq_c (pp_v 1 (pv 1)) (pq_c (pp_v 7 (pv 7)) (pq_c (pp_v 5 (pv 5)) (pq_c (pp_sl rfl (pp_v 3 (pv 3)) (pp_ps (pp_v 6 (pv 6))) pp_pn) pq_n))))) .nil))
    (ss_1 (s_ex (pp_bmL 4 rfl ol_app PySem.F.plainAttrs_list PySem.F.slot_list_append PySem.F.type_list_append mt_append (pv 4) (pd_c (pp_v 6 (pv 6)) pd_n))))
    (ss_1 (s_if (pp_tcmp op_ge o_ge (pp_v 7 (pv 7)) (pp_v 2 (pv 2)) (nomark _))
    (ss_1 (s_ret (pp_tup (pd_c (pp_f 4 (pv 4)) (pd_c (pp_v 6 (pv 6)) pd_n)))))
    ss_n)))))))
    (ss_1 (s_ret (pp_tup (pd_c (pp_f 4 (pv 4)) (pd_c (pp_c pe_non) pd_n))))))))

theorem ok_f_trap_weather {f : Addr} {fd : FuncData} (F : L2.Fun K "trap_weather" "trap_weather" s_f_trap_weather f fd)
    (T_Habit : S_Habit K mg (ad .Habit))
    (T_Lacquer : S_Lacquer K mg (ad .Lacquer))
    (g_DAMP : ∃ u, mg "DAMP" = some u ∧ RelV (.str "#") u)
    (g_DRY : ∃ u, mg "DRY" = some u ∧ RelV (.str ".") u)
    {f_f_played : Addr} {fd_f_played : FuncData} (O_f_played : FnOk P w K mg base CX0 4 f_f_played fd_f_played ["habit", "steps", "farthest", "signs"] (spP K ad 4 G_f_played)) (m_f_played : mg "played" = some (.ref f_f_played)) (k_f_played : PySem.W.keepIn K (.ref f_f_played) = true) (b_f_played : Binds K fd_f_played ["habit", "steps", "farthest", "signs"] [])
    {f_f_trap : Addr} {fd_f_trap : FuncData} (O_f_trap : FnOk P w K mg base (L2.CX P w) 8 f_f_trap fd_f_trap ["lacquer", "climate", "sight"] (spP K ad 3 G_f_trap)) (m_f_trap : mg "trap" = some (.ref f_f_trap)) (k_f_trap : PySem.W.keepIn K (.ref f_f_trap) = true) (b_f_trap : Binds K fd_f_trap ["lacquer", "climate", "sight"] []) :
    FnOk P w K mg base (L2.CX P w) 9 f fd ["habit", "lacquer", "climate"] (spP K ad 3 G_f_trap_weather) :=
  okX (N := N_f_trap_weather) (s := B_f_trap_weather) F sc_f_trap_weather rfl rfl fun cdv A outer s H E hr =>
    (ss_c (s_set (i := 3) sc_f_trap_weather.nd rfl (by first | exact Or.inl rfl | exact Or.inr rfl) (pp_callS O_f_trap (takes_of rfl rfl rfl rfl) (hr.mono (by decide)) (by rfl) m_f_trap k_f_trap b_f_trap (pq_c (pp_v 1 (pv 1)) (pq_c (pp_v 2 (pv 2)) (pq_c (pp_fld .Habit 0 rfl T_Habit.cl T_Habit.n_sight (pp_v 0 (pv 0))) pq_n)))))
    (ss_c (s_if (pp_tcmp op_isNN o_is (pp_v 3 (pv 3)) (pp_c pe_non) (nomark _))
    (ss_1 (s_ret (pp_c pe_non)))
    ss_n)
    (ss_c (s_asgT (pp_v 3 (pv 3)) (g_t rfl rfl (gs_c (g_n (i := 4) sc_f_trap_weather.nd rfl (by first | exact Or.inl rfl | exact Or.inr rfl)) (gs_c (g_n (i := 5) sc_f_trap_weather.nd rfl (by first | exact Or.inl rfl | exact Or.inr rfl)) (gs_c (g_n (i := 6) sc_f_trap_weather.nd rfl (by first | exact Or.inl rfl | exact Or.inr rfl)) gs_n)))))
    (ss_c (s_asgT (pp_call O_f_played (hr.mono (by decide)) (by rfl) m_f_played k_f_played b_f_played .nil pass0 (pq_c (pp_v 0 (pv 0)) (pq_c (pp_v 1 (pv 1)) (pq_c (pp_fld .Lacquer 1 rfl T_Lacquer.cl T_Lacquer.n_b (pp_v 1 (pv 1))) (pq_c (pp_2 op_mulS o_mulS (pp_c (C8.pe_gc (by rfl) g_DRY)) (pp_2 op_add o_add (pp_2 op_add o_add (pp_v 5 (pv 5)) (pp_fld .Lacquer 1 rfl T_Lacquer.cl T_Lacquer.n_b (pp_v 1 (pv 1)))) (pp_fld .Habit 0 rfl T_Habit.cl T_Habit.n_sight (pp_v 0 (pv 0))))) pq_n)))) .nil) (g_t rfl rfl (gs_c (g_n (i := 7) sc_f_trap_weather.nd rfl (by first | exact Or.inl rfl | exact Or.inr rfl)) (gs_c (g_n (i := 8) sc_f_trap_weather.nd rfl (by first | exact Or.inl rfl | exact Or.inr rfl)) gs_n))))
    (ss_c (s_setLc (i := 9) (own := [("hour", 12)]) (by rfl) sc_f_trap_weather.nd rfl rfl (sw_true rfl rfl rfl (by decide +kernel)) (pi_l rfl (pp_v 7 (pv 7))) (blkOk_by (N := N_f_trap_weather) (sc := defScope s_f_trap_weather) (by decide +kernel)) (fun _ _ _ _ _ => (g_n (i := 12) sc_f_trap_weather.nd rfl (by first | exact Or.inl rfl | exact Or.inr rfl))) (fun _ _ _ _ _ => (pts_1 (pp_tcmp op_ge o_ge (pp_v 12 (pv 12)) (pp_v 5 (pv 5)) (nomark _)))) (fun _ _ _ _ _ => (pp_v 12 (pv 12))))
    (ss_c (s_if (pp_tno (pp_ttr rfl (pp_v 9 (pv 9))))
    (ss_1 (s_ret (pp_2 op_mulS o_mulS (pp_c (C8.pe_gc (by rfl) g_DRY)) (pp_2 op_add o_add (pp_v 8 (pv 8)) (pp_fld .Habit 0 rfl T_Habit.cl T_Habit.n_sight (pp_v 0 (pv 0)))))))
    ss_n)
    (ss_c (s_set (i := 10) sc_f_trap_weather.nd rfl (by first | exact Or.inl rfl | exact Or.inr rfl) (pp_2 op_addSS o_addS (pp_2 op_addSS o_addS (pp_2 op_mulS o_mulS (pp_c (C8.pe_gc (by rfl) g_DRY)) (pp_2 op_sub o_sub (pp_2 op_add o_add (pp_ix rfl (pp_v 9 (pv 9)) (pp_c pe_int) (fun _ _ => rfl)) (pp_v 6 (pv 6))) (pp_c pe_int))) (pp_2 op_mulS o_mulS (pp_c (C8.pe_gc (by rfl) g_DAMP)) (pp_v 4 (pv 4)))) (pp_2 op_mulS o_mulS (pp_c (C8.pe_gc (by rfl) g_DRY)) (pp_fld .Habit 0 rfl T_Habit.cl T_Habit.n_sight (pp_v 0 (pv 0))))))
    (ss_c (s_asgT (pp_call O_f_played (hr.mono (by decide)) (by rfl) m_f_played k_f_played b_f_played .nil pass0 (pq_c (pp_v 0 (pv 0)) (pq_c (pp_v 1 (pv 1)) (pq_c (pp_fld .Lacquer 1 rfl T_Lacquer.cl T_Lacquer.n_b (pp_v 1 (pv 1))) (pq_c (pp_v 10 (pv 10)) pq_n)))) .nil) (g_t rfl rfl (gs_c (g_n (i := 11) sc_f_trap_weather.nd rfl (by first | exact Or.inl rfl | exact Or.inr rfl)) (gs_c (g_n (i := 8) sc_f_trap_weather.nd rfl (by first | exact Or.inl rfl | exact Or.inr rfl)) gs_n))))
    (ss_1 (s_ret (pp_sl rfl (pp_v 10 (pv 10)) pp_pn (pp_ps (pp_2 op_add o_add (pp_v 8 (pv 8)) (pp_fld .Habit 0 rfl T_Habit.cl T_Habit.n_sight (pp_v 0 (pv 0))))))))))))))))

theorem ok_l_answer {f : Addr} {fd : FuncData} (F : L2.Fun K "_law_answer" "_law_answer" s_l_answer f fd)
    (z_len : mg "len" = none)
    (z_range : mg "range" = none) :
    FnOk P w K mg base CX0 1 f fd ["rows", "age", "dry", "ahead"] (spP K ad 4 G_l_answer) :=
  ok0 (N := N_l_answer) (s := B_l_answer) F sc_l_answer rfl rfl fun cdv A outer s H E hr =>
    (ss_c (s_for PassesOwn.never rfl (pi_l rfl (pp_v 0 (pv 0))) (g_n (i := 4) sc_l_answer.nd rfl (by first | exact Or.inl rfl | exact Or.inr rfl))
    (ss_c (s_set (i := 5) sc_l_answer.nd rfl (by first | exact Or.inl rfl | exact Or.inr rfl) (pp_van (pp_voo (pp_cmp (op_eqB hr.units) o_eq (pp_ix rfl (pp_v 4 (pv 4)) (pp_c pe_int) (fun _ _ => rfl)) (pp_c pe_int) (nomark _)) (pe_one (pp_cmp (op_eqB hr.units) o_eq (pp_ix rfl (pp_v 4 (pv 4)) (pp_c pe_int) (fun _ _ => rfl)) (pp_v 1 (pv 1)) (nomark _)))) (pe_one (pp_cmp op_le o_le (pp_ix rfl (pp_v 4 (pv 4)) (pp_c pe_int) (fun _ _ => rfl)) (pp_v 2 (pv 2)) (nomark _)))))
    (ss_c (s_for PassesOwn.never rfl (pi_r1 (by rfl) z_range (pp_B ob_len (c_lenA rfl) (by rfl) z_len (by decide +kernel) (pd_c (pp_ix rfl (pp_v 4 (pv 4)) (pp_c pe_int) (fun _ _ => rfl)) pd_n))) (g_n (i := 6) sc_l_answer.nd rfl (by first | exact Or.inl rfl | exact Or.inr rfl))
    (ss_1 (s_if (PW.pt (pp_wan (pp_tcmp (op_neB hr.units) o_ne (pp_ix rfl (pp_ix rfl (pp_v 4 (pv 4)) (pp_c pe_int) (fun _ _ => rfl)) (pp_v 6 (pv 6)) (fun _ _ => rfl)) (pp_c pe_str) (nomark _)) (pw_and1 (pp_tcmp (op_neB hr.units) o_ne (pp_ix rfl (pp_ix rfl (pp_v 4 (pv 4)) (pp_c pe_int) (fun _ _ => rfl)) (pp_v 6 (pv 6)) (fun _ _ => rfl)) (pp_ix rfl (pp_v 3 (pv 3)) (pp_v 6 (pv 6)) (fun _ _ => rfl)) (nomark _)))))
    (ss_1 (s_set (i := 5) sc_l_answer.nd rfl (by first | exact Or.inl rfl | exact Or.inr rfl) (pp_c pe_bl)))
    ss_n)))
    (ss_1 (s_if (pp_tval (pp_v 5 (pv 5)))
    (ss_1 (s_ret (pp_ix rfl (pp_v 4 (pv 4)) (pp_c pe_int) (fun _ _ => rfl))))
    ss_n)))))
    (ss_1 (s_ret (pp_c pe_bl))))

theorem ok_l_play {f : Addr} {fd : FuncData} (F : L2.Fun K "_law_play" "_law_play" s_l_play f fd)
    (z_len : mg "len" = none)
    (z_range : mg "range" = none)
    {f_l_answer : Addr} {fd_l_answer : FuncData} (O_l_answer : FnOk P w K mg base CX0 1 f_l_answer fd_l_answer ["rows", "age", "dry", "ahead"] (spP K ad 4 G_l_answer)) (m_l_answer : mg "_law_answer" = some (.ref f_l_answer)) (k_l_answer : PySem.W.keepIn K (.ref f_l_answer) = true) (b_l_answer : Binds K fd_l_answer ["rows", "age", "dry", "ahead"] []) :
    FnOk P w K mg base CX0 2 f fd ["sight", "rows", "steps", "signs"] (spP K ad 4 G_l_play) :=
  ok0 (N := N_l_play) (s := B_l_play) F sc_l_play rfl rfl fun cdv A outer s H E hr =>
    (ss_c (s_setC (i := 4) sc_l_play.nd rfl (by first | exact Or.inl rfl | exact Or.inr rfl) (pp_lst (pd_c (pp_c pe_int) pd_n)))
    (ss_c (s_set (i := 5) sc_l_play.nd rfl (by first | exact Or.inl rfl | exact Or.inr rfl) (pp_c pe_int))
    (ss_c (s_for PassesOwn.never rfl (pi_r2 (by rfl) z_range (pp_c pe_int) (pp_2 op_add o_add (pp_2 op_sub o_sub (pp_B ob_len (c_lenA rfl) (by rfl) z_len (by decide +kernel) (pd_c (pp_v 3 (pv 3)) pd_n)) (pp_v 0 (pv 0))) (pp_c pe_int))) (g_n (i := 6) sc_l_play.nd rfl (by first | exact Or.inl rfl | exact Or.inr rfl))
    (ss_c (s_set (i := 5) sc_l_play.nd rfl (by first | exact Or.inl rfl | exact Or.inr rfl) (pp_2 op_add o_add (pp_v 5 (pv 5)) (pp_c pe_int)))
    (ss_c (s_if (pp_tcmp (op_eqB hr.units) o_eq (pp_ix rfl (pp_v 3 (pv 3)) (pp_2 op_sub o_sub (pp_v 6 (pv 6)) (pp_c pe_int)) (fun _ _ => rfl)) (pp_c pe_str) (nomark _))
    (ss_1 (s_set (i := 5) sc_l_play.nd rfl (by first | exact Or.inl rfl | exact Or.inr rfl) (pp_c pe_int)))
    ss_n)
    (ss_c (s_set (i := 7) sc_l_play.nd rfl (by first | exact Or.inl rfl | exact Or.inr rfl) (pp_2 op_sub o_sub (pp_v 6 (pv 6)) (look_v 4 (pp_ix rfl (pp_v 4 (pv 4)) (pp_1 un_neg o_neg (pp_c pe_int)) (fun _ _ => rfl)))))
    (ss_c (s_set (i := 8) sc_l_play.nd rfl (by first | exact Or.inl rfl | exact Or.inr rfl) (pp_c pe_bl))
    (ss_c (s_if (PW.pt (pp_wan (pp_tcmp op_gt o_gt (pp_v 5 (pv 5)) (pp_c pe_int) (nomark _)) (pw_and1 (pp_tcmp (op_inB rfl) o_in (pp_v 7 (pv 7)) (pp_v 2 (pv 2)) (by rfl)))))
    (ss_1 (s_set (i := 8) sc_l_play.nd rfl (by first | exact Or.inl rfl | exact Or.inr rfl) (pp_call O_l_answer (hr.mono (by decide)) (by rfl) m_l_answer k_l_answer b_l_answer .nil pass0 (pq_c (pp_v 1 (pv 1)) (pq_c (pp_v 7 (pv 7)) (pq_c (pp_v 5 (pv 5)) (pq_c (pp_sl rfl (pp_v 3 (pv 3)) (pp_ps (pp_v 6 (pv 6))) (pp_ps (pp_2 op_add o_add (pp_v 6 (pv 6)) (pp_v 0 (pv 0))))) pq_n)))) .nil)))
    ss_n)
    (ss_1 (s_if (pp_tval (pp_v 8 (pv 8)))
    (ss_1 (s_ex (pp_bmL 4 rfl ol_app PySem.F.plainAttrs_list PySem.F.slot_list_append PySem.F.type_list_append mt_append (pv 4) (pd_c (pp_v 6 (pv 6)) pd_n))))
    (ss_1 (s_if (pp_tcmp op_ge o_ge (pp_v 7 (pv 7)) (pp_ix rfl (pp_v 2 (pv 2)) (pp_1 un_neg o_neg (pp_c pe_int)) (fun _ _ => rfl)) (nomark _))
    (ss_1 (s_ret (pp_tup (pd_c (pp_f 4 (pv 4)) (pd_c (pp_v 6 (pv 6)) pd_n)))))
    ss_n))))))))))
    (ss_1 (s_ret (pp_tup (pd_c (pp_f 4 (pv 4)) (pd_c (pp_c pe_int) pd_n))))))))

theorem ok_l_steps {f : Addr} {fd : FuncData} (F : L2.Fun K "_law_steps" "_law_steps" s_l_steps f fd)
    (z_range : mg "range" = none) :
    FnOk P w K mg base CX0 1 f fd ["ab"] (spP K ad 1 G_l_steps) :=
  ok0 (N := N_l_steps) (s := B_l_steps) F sc_l_steps rfl rfl fun cdv A outer s H E hr =>
    (ss_1 (s_ret (pp_lc (own := [("step", 1)]) (by rfl) sc_l_steps.nd (pi_r2 (by rfl) z_range (pp_ix rfl (pp_v 0 (pv 0)) (pp_c pe_int) (fun _ _ => rfl)) (pp_2 op_add o_add (pp_ix rfl (pp_v 0 (pv 0)) (pp_c pe_int) (fun _ _ => rfl)) (pp_c pe_int))) (blkOk_by (N := N_l_steps) (sc := defScope s_l_steps) (by decide +kernel)) (fun _ _ _ _ _ => (g_n (i := 1) sc_l_steps.nd rfl (by first | exact Or.inl rfl | exact Or.inr rfl))) (fun _ _ _ _ _ => pts_n) (fun _ _ _ _ _ => (pp_v 1 (pv 1))))))

theorem ok_l_longest {f : Addr} {fd : FuncData} (F : L2.Fun K "_law_longest" "_law_longest" s_l_longest f fd)
     :
    FnOk P w K mg base CX0 1 f fd ["kinds", "stretch"] (spP K ad 2 G_l_longest) :=
  ok0 (N := N_l_longest) (s := B_l_longest) F sc_l_longest rfl rfl fun cdv A outer s H E hr =>
    (ss_c (s_set (i := 2) sc_l_longest.nd rfl (by first | exact Or.inl rfl | exact Or.inr rfl) (pp_c pe_int))
    (ss_c (s_for PassesOwn.never rfl (pi_l rfl (pp_v 0 (pv 0))) (g_n (i := 3) sc_l_longest.nd rfl (by first | exact Or.inl rfl | exact Or.inr rfl))
    (ss_1 (s_if (PW.pt (pp_wan (pp_tcmp op_le o_le (pp_ix rfl (pp_v 3 (pv 3)) (pp_c pe_int) (fun _ _ => rfl)) (pp_v 1 (pv 1)) (nomark _)) (pw_and1 (pp_tcmp op_gt o_gt (pp_ix rfl (pp_v 3 (pv 3)) (pp_c pe_int) (fun _ _ => rfl)) (pp_v 2 (pv 2)) (nomark _)))))
    (ss_1 (s_set (i := 2) sc_l_longest.nd rfl (by first | exact Or.inl rfl | exact Or.inr rfl) (pp_ix rfl (pp_v 3 (pv 3)) (pp_c pe_int) (fun _ _ => rfl))))
    ss_n)))
    (ss_1 (s_ret (pp_v 2 (pv 2))))))

theorem ok_l_breach {f : Addr} {fd : FuncData} (F : L2.Fun K "_law_breach" "_law_breach" s_l_breach f fd)
    (z_len : mg "len" = none)
    (z_range : mg "range" = none)
    {f_l_longest : Addr} {fd_l_longest : FuncData} (O_l_longest : FnOk P w K mg base CX0 1 f_l_longest fd_l_longest ["kinds", "stretch"] (spP K ad 2 G_l_longest)) (m_l_longest : mg "_law_longest" = some (.ref f_l_longest)) (k_l_longest : PySem.W.keepIn K (.ref f_l_longest) = true) (b_l_longest : Binds K fd_l_longest ["kinds", "stretch"] []) :
    FnOk P w K mg base CX0 2 f fd ["kinds", "signs"] (spP K ad 2 G_l_breach) :=
  ok0 (N := N_l_breach) (s := B_l_breach) F sc_l_breach rfl rfl fun cdv A outer s H E hr =>
    (ss_c (s_set (i := 2) sc_l_breach.nd rfl (by first | exact Or.inl rfl | exact Or.inr rfl) (pp_c pe_int))
    (ss_c (s_set (i := 3) sc_l_breach.nd rfl (by first | exact Or.inl rfl | exact Or.inr rfl) (pp_c pe_int))
    (ss_c (s_for PassesOwn.never rfl (pi_r1 (by rfl) z_range (pp_B ob_len (c_lenA rfl) (by rfl) z_len (by decide +kernel) (pd_c (pp_v 1 (pv 1)) pd_n))) (g_n (i := 4) sc_l_breach.nd rfl (by first | exact Or.inl rfl | exact Or.inr rfl))
    (ss_1 (s_if (pp_tcmp (op_eqB hr.units) o_eq (pp_ix rfl (pp_v 1 (pv 1)) (pp_v 4 (pv 4)) (fun _ _ => rfl)) (pp_c pe_str) (nomark _))
    (ss_1 (s_set (i := 2) sc_l_breach.nd rfl (by first | exact Or.inl rfl | exact Or.inr rfl) (pp_2 op_add o_add (pp_v 2 (pv 2)) (pp_c pe_int))))
    (ss_c (s_if (pp_tcmp op_gt o_gt (pp_v 2 (pv 2)) (pp_c pe_int) (nomark _))
    (ss_1 (s_set (i := 3) sc_l_breach.nd rfl (by first | exact Or.inl rfl | exact Or.inr rfl) (pp_call O_l_longest (hr.mono (by decide)) (by rfl) m_l_longest k_l_longest b_l_longest .nil pass0 (pq_c (pp_v 0 (pv 0)) (pq_c (pp_v 2 (pv 2)) pq_n)) .nil)))
    ss_n)
    (ss_c (s_set (i := 2) sc_l_breach.nd rfl (by first | exact Or.inl rfl | exact Or.inr rfl) (pp_c pe_int))
    (ss_c (s_if (pp_tcmp (op_eqB hr.units) o_eq (pp_v 3 (pv 3)) (pp_c pe_int) (nomark _))
    (ss_1 (s_ret (pp_2 op_add o_add (pp_v 4 (pv 4)) (pp_c pe_int))))
    ss_n)
    (ss_1 (s_set (i := 3) sc_l_breach.nd rfl (by first | exact Or.inl rfl | exact Or.inr rfl) (pp_2 op_sub o_sub (pp_v 3 (pv 3)) (pp_c pe_int))))))))))
    (ss_1 (s_ret (pp_c pe_int))))))

theorem ok_l_text {f : Addr} {fd : FuncData} (F : L2.Fun K "_law_text" "_law_text" s_l_text f fd)
    (z_len : mg "len" = none)
    {f_l_breach : Addr} {fd_l_breach : FuncData} (O_l_breach : FnOk P w K mg base CX0 2 f_l_breach fd_l_breach ["kinds", "signs"] (spP K ad 2 G_l_breach)) (m_l_breach : mg "_law_breach" = some (.ref f_l_breach)) (k_l_breach : PySem.W.keepIn K (.ref f_l_breach) = true) (b_l_breach : Binds K fd_l_breach ["kinds", "signs"] [])
    {f_l_play : Addr} {fd_l_play : FuncData} (O_l_play : FnOk P w K mg base CX0 2 f_l_play fd_l_play ["sight", "rows", "steps", "signs"] (spP K ad 4 G_l_play)) (m_l_play : mg "_law_play" = some (.ref f_l_play)) (k_l_play : PySem.W.keepIn K (.ref f_l_play) = true) (b_l_play : Binds K fd_l_play ["sight", "rows", "steps", "signs"] [])
    {f_l_steps : Addr} {fd_l_steps : FuncData} (O_l_steps : FnOk P w K mg base CX0 1 f_l_steps fd_l_steps ["ab"] (spP K ad 1 G_l_steps)) (m_l_steps : mg "_law_steps" = some (.ref f_l_steps)) (k_l_steps : PySem.W.keepIn K (.ref f_l_steps) = true) (b_l_steps : Binds K fd_l_steps ["ab"] []) :
    FnOk P w K mg base CX0 3 f fd ["ab", "kinds", "triple", "sight", "rows"] (spP K ad 5 G_l_text) :=
  ok0 (N := N_l_text) (s := B_l_text) F sc_l_text rfl rfl fun cdv A outer s H E hr =>
    (ss_c (s_set (i := 5) sc_l_text.nd rfl (by first | exact Or.inl rfl | exact Or.inr rfl) (pp_call O_l_steps (hr.mono (by decide)) (by rfl) m_l_steps k_l_steps b_l_steps .nil pass0 (pq_c (pp_v 0 (pv 0)) pq_n) .nil))
    (ss_c (s_set (i := 6) sc_l_text.nd rfl (by first | exact Or.inl rfl | exact Or.inr rfl) (pp_call O_l_play (hr.mono (by decide)) (by rfl) m_l_play k_l_play b_l_play .nil pass0 (pq_c (pp_v 3 (pv 3)) (pq_c (pp_v 4 (pv 4)) (pq_c (pp_v 5 (pv 5)) (pq_c (pp_2 op_mulS o_mulS (pp_c pe_str) (pp_2 op_add o_add (pp_2 op_add o_add (pp_ix rfl (pp_v 2 (pv 2)) (pp_c pe_int) (fun _ _ => rfl)) (pp_ix rfl (pp_v 0 (pv 0)) (pp_c pe_int) (fun _ _ => rfl))) (pp_v 3 (pv 3)))) pq_n)))) .nil))
    (ss_c (s_setLc (i := 7) (own := [("hour", 11)]) (by rfl) sc_l_text.nd rfl rfl (sw_true rfl rfl rfl (by decide +kernel)) (pi_l rfl (pp_ix rfl (pp_v 6 (pv 6)) (pp_c pe_int) (fun _ _ => rfl))) (blkOk_by (N := N_l_text) (sc := defScope s_l_text) (by decide +kernel)) (fun _ _ _ _ _ => (g_n (i := 11) sc_l_text.nd rfl (by first | exact Or.inl rfl | exact Or.inr rfl))) (fun _ _ _ _ _ => (pts_1 (pp_tcmp op_ge o_ge (pp_v 11 (pv 11)) (pp_ix rfl (pp_v 2 (pv 2)) (pp_c pe_int) (fun _ _ => rfl)) (nomark _)))) (fun _ _ _ _ _ => (pp_v 11 (pv 11))))
    (ss_c (s_set (i := 8) sc_l_text.nd rfl (by first | exact Or.inl rfl | exact Or.inr rfl) (pp_2 op_mulS o_mulS (pp_c pe_str) (pp_2 op_add o_add (pp_ix rfl (pp_v 6 (pv 6)) (pp_c pe_int) (fun _ _ => rfl)) (pp_v 3 (pv 3)))))
    (ss_c (s_set (i := 9) sc_l_text.nd rfl (by first | exact Or.inl rfl | exact Or.inr rfl) (pp_ix rfl (pp_v 6 (pv 6)) (pp_c pe_int) (fun _ _ => rfl)))
    (ss_c (s_if (pp_tcmp op_gt o_gt (pp_B ob_len (c_lenA rfl) (by rfl) z_len (by decide +kernel) (pd_c (pp_v 7 (pv 7)) pd_n)) (pp_c pe_int) (nomark _))
    (ss_c (s_set (i := 8) sc_l_text.nd rfl (by first | exact Or.inl rfl | exact Or.inr rfl) (pp_2 op_addSS o_addS (pp_2 op_addSS o_addS (pp_2 op_mulS o_mulS (pp_c pe_str) (pp_2 op_sub o_sub (pp_2 op_add o_add (pp_ix rfl (pp_v 7 (pv 7)) (pp_c pe_int) (fun _ _ => rfl)) (pp_ix rfl (pp_v 2 (pv 2)) (pp_c pe_int) (fun _ _ => rfl))) (pp_c pe_int))) (pp_2 op_mulS o_mulS (pp_c pe_str) (pp_ix rfl (pp_v 2 (pv 2)) (pp_c pe_int) (fun _ _ => rfl)))) (pp_2 op_mulS o_mulS (pp_c pe_str) (pp_2 op_add o_add (pp_ix rfl (pp_v 0 (pv 0)) (pp_c pe_int) (fun _ _ => rfl)) (pp_v 3 (pv 3))))))
    (ss_1 (s_set (i := 9) sc_l_text.nd rfl (by first | exact Or.inl rfl | exact Or.inr rfl) (pp_2 op_sub o_sub (pp_2 op_add o_add (pp_2 op_add o_add (pp_ix rfl (pp_v 7 (pv 7)) (pp_c pe_int) (fun _ _ => rfl)) (pp_ix rfl (pp_v 2 (pv 2)) (pp_c pe_int) (fun _ _ => rfl))) (pp_ix rfl (pp_v 2 (pv 2)) (pp_c pe_int) (fun _ _ => rfl))) (pp_c pe_int)))))
    ss_n)
    (ss_c (s_set (i := 10) sc_l_text.nd rfl (by first | exact Or.inl rfl | exact Or.inr rfl) (pp_ix rfl (pp_call O_l_play (hr.mono (by decide)) (by rfl) m_l_play k_l_play b_l_play .nil pass0 (pq_c (pp_v 3 (pv 3)) (pq_c (pp_v 4 (pv 4)) (pq_c (pp_v 5 (pv 5)) (pq_c (pp_v 8 (pv 8)) pq_n)))) .nil) (pp_c pe_int) (fun _ _ => rfl)))
    (ss_c (s_if (PW.pt (pp_woo (pp_tcmp op_lt o_lt (pp_v 10 (pv 10)) (pp_c pe_int) (nomark _)) (pp_woo (pp_tcmp op_gt o_gt (pp_v 10 (pv 10)) (pp_v 9 (pv 9)) (nomark _)) (pw_or1 (pp_tcmp (op_neB hr.units) o_ne (pp_call O_l_breach (hr.mono (by decide)) (by rfl) m_l_breach k_l_breach b_l_breach .nil pass0 (pq_c (pp_v 1 (pv 1)) (pq_c (pp_sl rfl (pp_v 8 (pv 8)) pp_pn (pp_ps (pp_2 op_add o_add (pp_v 10 (pv 10)) (pp_v 3 (pv 3))))) pq_n)) .nil) (pp_c pe_int) (nomark _))))))
    (ss_1 (s_ret (pp_c pe_str)))
    ss_n)
    (ss_1 (s_ret (pp_sl rfl (pp_v 8 (pv 8)) pp_pn (pp_ps (pp_2 op_add o_add (pp_v 10 (pv 10)) (pp_v 3 (pv 3)))))))))))))))

theorem ok_l_trapped {f : Addr} {fd : FuncData} (F : L2.Fun K "_law_trapped" "_law_trapped" s_l_trapped f fd)
    (T_Lacquer : S_Lacquer K mg (ad .Lacquer))
    (z_len : mg "len" = none)
    {f_f_trap_weather : Addr} {fd_f_trap_weather : FuncData} (O_f_trap_weather : FnOk P w K mg base (L2.CX P w) 9 f_f_trap_weather fd_f_trap_weather ["habit", "lacquer", "climate"] (spP K ad 3 G_f_trap_weather)) (m_f_trap_weather : mg "trap_weather" = some (.ref f_f_trap_weather)) (k_f_trap_weather : PySem.W.keepIn K (.ref f_f_trap_weather) = true) (b_f_trap_weather : Binds K fd_f_trap_weather ["habit", "lacquer", "climate"] [])
    {f_l_play : Addr} {fd_l_play : FuncData} (O_l_play : FnOk P w K mg base CX0 2 f_l_play fd_l_play ["sight", "rows", "steps", "signs"] (spP K ad 4 G_l_play)) (m_l_play : mg "_law_play" = some (.ref f_l_play)) (k_l_play : PySem.W.keepIn K (.ref f_l_play) = true) (b_l_play : Binds K fd_l_play ["sight", "rows", "steps", "signs"] [])
    {f_l_same : Addr} {fd_l_same : FuncData} (O_l_same : FnOk P w K mg base CX0 5 f_l_same fd_l_same ["actual", "due"] (spP K ad 2 G_l_same)) (m_l_same : mg "_law_same" = some (.ref f_l_same)) (k_l_same : PySem.W.keepIn K (.ref f_l_same) = true) (b_l_same : Binds K fd_l_same ["actual", "due"] [])
    {f_l_steps : Addr} {fd_l_steps : FuncData} (O_l_steps : FnOk P w K mg base CX0 1 f_l_steps fd_l_steps ["ab"] (spP K ad 1 G_l_steps)) (m_l_steps : mg "_law_steps" = some (.ref f_l_steps)) (k_l_steps : PySem.W.keepIn K (.ref f_l_steps) = true) (b_l_steps : Binds K fd_l_steps ["ab"] [])
    {f_l_text : Addr} {fd_l_text : FuncData} (O_l_text : FnOk P w K mg base CX0 3 f_l_text fd_l_text ["ab", "kinds", "triple", "sight", "rows"] (spP K ad 5 G_l_text)) (m_l_text : mg "_law_text" = some (.ref f_l_text)) (k_l_text : PySem.W.keepIn K (.ref f_l_text) = true) (b_l_text : Binds K fd_l_text ["ab", "kinds", "triple", "sight", "rows"] [])
    {f_Lacquer_init : Addr} {fd_Lacquer_init : FuncData} (O_Lacquer_init : FnOk P w K mg base (L2.CX P w) 1 f_Lacquer_init fd_Lacquer_init ["self", "a", "b"] (spP K ad 3 G_Lacquer_init)) (b_Lacquer_init : Binds K fd_Lacquer_init ["self", "a", "b"] []) (I_Lacquer : Mk K (ad .Lacquer) f_Lacquer_init) :
    FnOk P w K mg base CX0 10 f fd ["ab", "kinds", "triple", "habit", "climate", "sight", "rows"] (spP K ad 7 G_l_trapped) :=
  ok0 (N := N_l_trapped) (s := B_l_trapped) F sc_l_trapped rfl rfl fun cdv A outer s H E hr =>
    (ss_c (s_set (i := 7) sc_l_trapped.nd rfl (by first | exact Or.inl rfl | exact Or.inr rfl) (pp_call O_f_trap_weather (hr.mono (by decide)) (by rfl) m_f_trap_weather k_f_trap_weather b_f_trap_weather .nil passL (pq_c (pp_v 3 (pv 3)) (pq_c (pp_make .Lacquer I_Lacquer O_Lacquer_init (hr.mono (by decide)) (by rfl) T_Lacquer.mg b_Lacquer_init .nil passL (pq_c (pp_ix rfl (pp_v 0 (pv 0)) (pp_c pe_int) (fun _ _ => rfl)) (pq_c (pp_ix rfl (pp_v 0 (pv 0)) (pp_c pe_int) (fun _ _ => rfl)) pq_n)) .nil) (pq_c (pp_v 4 (pv 4)) pq_n))) .nil))
    (ss_c (s_if (pp_tcmp op_isNN o_is (pp_v 2 (pv 2)) (pp_c pe_non) (nomark _))
    (ss_1 (s_ret (pp_cmp op_isNN o_is (pp_v 7 (pv 7)) (pp_c pe_non) (nomark _))))
    ss_n)
    (ss_c (s_set (i := 8) sc_l_trapped.nd rfl (by first | exact Or.inl rfl | exact Or.inr rfl) (pp_call O_l_text (hr.mono (by decide)) (by rfl) m_l_text k_l_text b_l_text .nil pass0 (pq_c (pp_v 0 (pv 0)) (pq_c (pp_v 1 (pv 1)) (pq_c (pp_v 2 (pv 2)) (pq_c (pp_v 5 (pv 5)) (pq_c (pp_v 6 (pv 6)) pq_n))))) .nil))
    (ss_c (s_if (PW.pt (pp_woo (pp_tcmp (op_eqB hr.units) o_eq (pp_v 8 (pv 8)) (pp_c pe_str) (nomark _)) (pw_or1 (pp_tno (pp_tval (pp_call O_l_same (hr.mono (by decide)) (by rfl) m_l_same k_l_same b_l_same .nil pass0 (pq_c (pp_v 7 (pv 7)) (pq_c (pp_v 8 (pv 8)) pq_n)) .nil))))))
    (ss_1 (s_ret (pp_c pe_bl)))
    ss_n)
    (ss_1 (s_ret (pp_cmp (op_eqB hr.units) o_eq (pp_ix rfl (pp_call O_l_play (hr.mono (by decide)) (by rfl) m_l_play k_l_play b_l_play .nil pass0 (pq_c (pp_v 5 (pv 5)) (pq_c (pp_v 6 (pv 6)) (pq_c (pp_call O_l_steps (hr.mono (by decide)) (by rfl) m_l_steps k_l_steps b_l_steps .nil pass0 (pq_c (pp_v 0 (pv 0)) pq_n) .nil) (pq_c (pp_v 7 (pv 7)) pq_n)))) .nil) (pp_c pe_int) (fun _ _ => rfl)) (pp_2 op_sub o_sub (pp_B ob_len (c_lenA rfl) (by rfl) z_len (by decide +kernel) (pd_c (pp_v 7 (pv 7)) pd_n)) (pp_v 5 (pv 5))) (nomark _))))))))

theorem ok_l_triple {f : Addr} {fd : FuncData} (F : L2.Fun K "_law_triple" "_law_triple" s_l_triple f fd)
    {f_l_lead : Addr} {fd_l_lead : FuncData} (O_l_lead : FnOk P w K mg base CX0 2 f_l_lead fd_l_lead ["a", "b", "w"] (spP K ad 3 G_l_lead)) (m_l_lead : mg "_law_lead" = some (.ref f_l_lead)) (k_l_lead : PySem.W.keepIn K (.ref f_l_lead) = true) (b_l_lead : Binds K fd_l_lead ["a", "b", "w"] []) :
    FnOk P w K mg base CX0 3 f fd ["ab", "plain", "head"] (spP K ad 3 G_l_triple) :=
  ok0 (N := N_l_triple) (s := B_l_triple) F sc_l_triple rfl rfl fun cdv A outer s H E hr =>
    (ss_c (s_for PassesOwn.never rfl (pi_l rfl (pp_v 1 (pv 1))) (g_n (i := 3) sc_l_triple.nd rfl (by first | exact Or.inl rfl | exact Or.inr rfl))
    (ss_1 (s_if (pp_tcmp (op_eqB hr.units) o_eq (pp_call O_l_lead (hr.mono (by decide)) (by rfl) m_l_lead k_l_lead b_l_lead .nil pass0 (pq_c (pp_ix rfl (pp_v 0 (pv 0)) (pp_c pe_int) (fun _ _ => rfl)) (pq_c (pp_ix rfl (pp_v 0 (pv 0)) (pp_c pe_int) (fun _ _ => rfl)) (pq_c (pp_ix rfl (pp_v 3 (pv 3)) (pp_c pe_int) (fun _ _ => rfl)) pq_n))) .nil) (pp_v 2 (pv 2)) (nomark _))
    (ss_1 (s_ret (pp_tup (pd_c (pp_ix rfl (pp_v 3 (pv 3)) (pp_c pe_int) (fun _ _ => rfl)) (pd_c (pp_ix rfl (pp_v 3 (pv 3)) (pp_c pe_int) (fun _ _ => rfl)) (pd_c (pp_v 2 (pv 2)) pd_n))))))
    ss_n)))
    (ss_1 (s_ret (pp_c pe_non))))

theorem ok_l_unsound {f : Addr} {fd : FuncData} (F : L2.Fun K "_law_unsound" "_law_unsound" s_l_unsound f fd)
    (T_BadHabit : S_BadHabit K mg (ad .BadHabit))
    (T_BadKind : S_BadKind K mg (ad .BadKind))
    (T_BadLacquer : S_BadLacquer K mg (ad .BadLacquer))
    (T_BadNumber : S_BadNumber K mg (ad .BadNumber))
    (T_DampError : S_DampError K mg (ad .DampError))
    (T_Strange : S_Strange K mg (ad .Strange))
    (T_TooLarge : S_TooLarge K mg (ad .TooLarge))
    (T_Unsound : S_Unsound K mg (ad .Unsound))
    (z_ValueError : mg "ValueError" = none)
    (z_isinstance : mg "isinstance" = none)
    (kit_Unsound_DampError : PySem.W.kitOne K (.ref (ad .Unsound)) (.ref (ad .DampError)) = some true)
    (kit_Unsound_Strange : PySem.W.kitOne K (.ref (ad .Unsound)) (.ref (ad .Strange)) = some false)
    (kit_Unsound_TooLarge : PySem.W.kitOne K (.ref (ad .Unsound)) (.ref (ad .TooLarge)) = some false)
    (kit_Unsound_ValueError : PySem.W.kitOne K (.ref (ad .Unsound)) (.type "ValueError") = some true)
    (xm_BadHabit_Unsound : PySem.W.exmOne K (.ref (ad .BadHabit)) (.ref (ad .Unsound)) = some false)
    (xm_BadKind_Unsound : PySem.W.exmOne K (.ref (ad .BadKind)) (.ref (ad .Unsound)) = some false)
    (xm_BadLacquer_Unsound : PySem.W.exmOne K (.ref (ad .BadLacquer)) (.ref (ad .Unsound)) = some false)
    (xm_BadNumber_Unsound : PySem.W.exmOne K (.ref (ad .BadNumber)) (.ref (ad .Unsound)) = some false)
    (xm_DampError_Unsound : PySem.W.exmOne K (.ref (ad .DampError)) (.ref (ad .Unsound)) = some false)
    (xm_Strange_Unsound : PySem.W.exmOne K (.ref (ad .Strange)) (.ref (ad .Unsound)) = some false)
    (xm_TooLarge_Unsound : PySem.W.exmOne K (.ref (ad .TooLarge)) (.ref (ad .Unsound)) = some false)
    (xm_Unsound_Unsound : PySem.W.exmOne K (.ref (ad .Unsound)) (.ref (ad .Unsound)) = some true)
    {f_f_trap : Addr} {fd_f_trap : FuncData} (O_f_trap : FnOk P w K mg base (L2.CX P w) 8 f_f_trap fd_f_trap ["lacquer", "climate", "sight"] (spP K ad 3 G_f_trap)) (m_f_trap : mg "trap" = some (.ref f_f_trap)) (k_f_trap : PySem.W.keepIn K (.ref f_f_trap) = true) (b_f_trap : Binds K fd_f_trap ["lacquer", "climate", "sight"] [])
    {f_f_trap_weather : Addr} {fd_f_trap_weather : FuncData} (O_f_trap_weather : FnOk P w K mg base (L2.CX P w) 9 f_f_trap_weather fd_f_trap_weather ["habit", "lacquer", "climate"] (spP K ad 3 G_f_trap_weather)) (m_f_trap_weather : mg "trap_weather" = some (.ref f_f_trap_weather)) (k_f_trap_weather : PySem.W.keepIn K (.ref f_f_trap_weather) = true) (b_f_trap_weather : Binds K fd_f_trap_weather ["habit", "lacquer", "climate"] [])
    {f_l_same : Addr} {fd_l_same : FuncData} (O_l_same : FnOk P w K mg base CX0 5 f_l_same fd_l_same ["actual", "due"] (spP K ad 2 G_l_same)) (m_l_same : mg "_law_same" = some (.ref f_l_same)) (k_l_same : PySem.W.keepIn K (.ref f_l_same) = true) (b_l_same : Binds K fd_l_same ["actual", "due"] []) :
    FnOk P w K mg base CX0 10 f fd ["lacquer", "climate", "sight", "habit", "kind"] (spP K ad 5 G_l_unsound) :=
  ok0 (N := N_l_unsound) (s := B_l_unsound) F sc_l_unsound rfl rfl fun cdv A outer s H E hr =>
    (ss_c (s_set (i := 5) sc_l_unsound.nd rfl (by first | exact Or.inl rfl | exact Or.inr rfl) (pp_c pe_non))
    (ss_c (s_set (i := 6) sc_l_unsound.nd rfl (by first | exact Or.inl rfl | exact Or.inr rfl) (pp_c pe_bl))
    (ss_c (s_tryA (i := 7) rfl rfl rfl sc_l_unsound.nd rfl rfl ⟨rfl, by decide, (.inl T_Unsound.mg)⟩ takes0 (.cons xm_DampError_Unsound (.cons xm_BadLacquer_Unsound (.cons xm_BadKind_Unsound (.cons xm_BadNumber_Unsound (.cons xm_BadHabit_Unsound (.cons xm_TooLarge_Unsound (.cons xm_Unsound_Unsound (.cons xm_Strange_Unsound .nil))))))))
    (fun W pn xe tk po => (ss_1 (s_ex (pp_callS O_f_trap tk (hr.mono (by decide)) (by rfl) m_f_trap k_f_trap b_f_trap (pq_c (pp_v 0 (pv 0)) (pq_c (pp_v 1 (pv 1)) (pq_c (pp_v 2 (pv 2)) pq_n)))))))
    (fun a oe cls d pn hz hf => (ss_c (s_set (i := 5) sc_l_unsound.nd rfl (by first | exact Or.inl rfl | exact Or.inr rfl) (pp_xf 7 .Unsound rfl T_Unsound.xf T_Unsound.n_kind hz hf rfl (pv 7)))
    (ss_1 (s_set (i := 6) sc_l_unsound.nd rfl (by first | exact Or.inl rfl | exact Or.inr rfl) (pp_van (pp_isE 7 rfl hz hf (.o kit_Unsound_DampError T_Unsound.ex .nil) (fun _ h => ClsV.eq ((.own _)) h) (by rfl) z_isinstance (pv 7) (C8.pe_gc (v := .ref (ad .DampError)) (by rfl) ⟨_, T_DampError.mg, rfl⟩)) (pp_van (pp_isE 7 rfl hz hf (.o kit_Unsound_ValueError T_Unsound.ex .nil) (fun _ h => ClsV.eq ((.ty _)) h) (by rfl) z_isinstance (pv 7) (pe_bltn (v := .ty "ValueError") (by rfl) z_ValueError (by decide +kernel) rfl)) (pe_one (pp_vno (pp_isE 7 rfl hz hf (.o kit_Unsound_Strange T_Unsound.ex .nil) (fun _ h => ClsV.eq ((.own _)) h) (by rfl) z_isinstance (pv 7) (C8.pe_gc (v := .ref (ad .Strange)) (by rfl) ⟨_, T_Strange.mg, rfl⟩)))))))))))
    (ss_c (s_if (PW.pt (pp_woo (pp_tno (pp_tval (pp_v 6 (pv 6)))) (pw_or1 (pp_tno (pp_tval (pp_call O_l_same (hr.mono (by decide)) (by rfl) m_l_same k_l_same b_l_same .nil pass0 (pq_c (pp_v 5 (pv 5)) (pq_c (pp_v 4 (pv 4)) pq_n)) .nil))))))
    (ss_1 (s_ret (pp_c pe_bl)))
    ss_n)
    (ss_c (s_set (i := 8) sc_l_unsound.nd rfl (by first | exact Or.inl rfl | exact Or.inr rfl) (pp_c pe_non))
    (ss_c (s_set (i := 9) sc_l_unsound.nd rfl (by first | exact Or.inl rfl | exact Or.inr rfl) (pp_c pe_bl))
    (ss_c (s_tryA (i := 7) rfl rfl rfl sc_l_unsound.nd rfl rfl ⟨rfl, by decide, (.inl T_Unsound.mg)⟩ takes0 (.cons xm_DampError_Unsound (.cons xm_BadLacquer_Unsound (.cons xm_BadKind_Unsound (.cons xm_BadNumber_Unsound (.cons xm_BadHabit_Unsound (.cons xm_TooLarge_Unsound (.cons xm_Unsound_Unsound (.cons xm_Strange_Unsound .nil))))))))
    (fun W pn xe tk po => (ss_1 (s_ex (pp_callS O_f_trap_weather tk (hr.mono (by decide)) (by rfl) m_f_trap_weather k_f_trap_weather b_f_trap_weather (pq_c (pp_v 3 (pv 3)) (pq_c (pp_v 0 (pv 0)) (pq_c (pp_v 1 (pv 1)) pq_n)))))))
    (fun a oe cls d pn hz hf => (ss_c (s_set (i := 8) sc_l_unsound.nd rfl (by first | exact Or.inl rfl | exact Or.inr rfl) (pp_xf 7 .Unsound rfl T_Unsound.xf T_Unsound.n_kind hz hf rfl (pv 7)))
    (ss_1 (s_set (i := 9) sc_l_unsound.nd rfl (by first | exact Or.inl rfl | exact Or.inr rfl) (pp_van (pp_isE 7 rfl hz hf (.o kit_Unsound_DampError T_Unsound.ex .nil) (fun _ h => ClsV.eq ((.own _)) h) (by rfl) z_isinstance (pv 7) (C8.pe_gc (v := .ref (ad .DampError)) (by rfl) ⟨_, T_DampError.mg, rfl⟩)) (pp_van (pp_isE 7 rfl hz hf (.o kit_Unsound_ValueError T_Unsound.ex .nil) (fun _ h => ClsV.eq ((.ty _)) h) (by rfl) z_isinstance (pv 7) (pe_bltn (v := .ty "ValueError") (by rfl) z_ValueError (by decide +kernel) rfl)) (pe_one (pp_vno (pp_isE 7 rfl hz hf (.o kit_Unsound_TooLarge T_Unsound.ex .nil) (fun _ h => ClsV.eq ((.own _)) h) (by rfl) z_isinstance (pv 7) (C8.pe_gc (v := .ref (ad .TooLarge)) (by rfl) ⟨_, T_TooLarge.mg, rfl⟩)))))))))))
    (ss_1 (s_ret (pp_van (pp_v 9 (pv 9)) (pe_one (pp_call O_l_same (hr.mono (by decide)) (by rfl) m_l_same k_l_same b_l_same .nil pass0 (pq_c (pp_v 8 (pv 8)) (pq_c (pp_v 4 (pv 4)) pq_n)) .nil))))))))))))

theorem ok_l_law {f : Addr} {fd : FuncData} (F : L2.Fun K "law" "law" s_l_law f fd)
    (T_Climate : S_Climate K mg (ad .Climate))
    (T_Habit : S_Habit K mg (ad .Habit))
    (T_Lacquer : S_Lacquer K mg (ad .Lacquer))
    (z_len : mg "len" = none)
    (z_list : mg "list" = none)
    (z_max : mg "max" = none)
    {f_f_trap : Addr} {fd_f_trap : FuncData} (O_f_trap : FnOk P w K mg base (L2.CX P w) 8 f_f_trap fd_f_trap ["lacquer", "climate", "sight"] (spP K ad 3 G_f_trap)) (m_f_trap : mg "trap" = some (.ref f_f_trap)) (k_f_trap : PySem.W.keepIn K (.ref f_f_trap) = true) (b_f_trap : Binds K fd_f_trap ["lacquer", "climate", "sight"] [])
    {f_l_case : Addr} {fd_l_case : FuncData} (O_l_case : FnOk P w K mg base CX0 4 f_l_case fd_l_case ["pool"] (spP K ad 1 G_l_case)) (m_l_case : mg "_law_case" = some (.ref f_l_case)) (k_l_case : PySem.W.keepIn K (.ref f_l_case) = true) (b_l_case : Binds K fd_l_case ["pool"] [])
    {f_l_cell : Addr} {fd_l_cell : FuncData} (O_l_cell : FnOk P w K mg base CX0 1 f_l_cell fd_l_cell ["script", "k"] (spP K ad 2 G_l_cell)) (m_l_cell : mg "_law_cell" = some (.ref f_l_cell)) (k_l_cell : PySem.W.keepIn K (.ref f_l_cell) = true) (b_l_cell : Binds K fd_l_cell ["script", "k"] [])
    {f_l_fault : Addr} {fd_l_fault : FuncData} (O_l_fault : FnOk P w K mg base CX0 3 f_l_fault fd_l_fault ["a", "b", "kind"] (spP K ad 3 G_l_fault)) (m_l_fault : mg "_law_fault" = some (.ref f_l_fault)) (k_l_fault : PySem.W.keepIn K (.ref f_l_fault) = true) (b_l_fault : Binds K fd_l_fault ["a", "b", "kind"] [])
    {f_l_head : Addr} {fd_l_head : FuncData} (O_l_head : FnOk P w K mg base CX0 3 f_l_head fd_l_head ["a", "b", "kinds"] (spP K ad 3 G_l_head)) (m_l_head : mg "_law_head" = some (.ref f_l_head)) (k_l_head : PySem.W.keepIn K (.ref f_l_head) = true) (b_l_head : Binds K fd_l_head ["a", "b", "kinds"] [])
    {f_l_plain : Addr} {fd_l_plain : FuncData} (O_l_plain : FnOk P w K mg base CX0 2 f_l_plain fd_l_plain ["kinds"] (spP K ad 1 G_l_plain)) (m_l_plain : mg "_law_plain" = some (.ref f_l_plain)) (k_l_plain : PySem.W.keepIn K (.ref f_l_plain) = true) (b_l_plain : Binds K fd_l_plain ["kinds"] [])
    {f_l_pool : Addr} {fd_l_pool : FuncData} (O_l_pool : FnOk P w K mg base CX0 1 f_l_pool fd_l_pool ["cell"] (spP K ad 1 G_l_pool)) (m_l_pool : mg "_law_pool" = some (.ref f_l_pool)) (k_l_pool : PySem.W.keepIn K (.ref f_l_pool) = true) (b_l_pool : Binds K fd_l_pool ["cell"] [])
    {f_l_same : Addr} {fd_l_same : FuncData} (O_l_same : FnOk P w K mg base CX0 5 f_l_same fd_l_same ["actual", "due"] (spP K ad 2 G_l_same)) (m_l_same : mg "_law_same" = some (.ref f_l_same)) (k_l_same : PySem.W.keepIn K (.ref f_l_same) = true) (b_l_same : Binds K fd_l_same ["actual", "due"] [])
    {f_l_take : Addr} {fd_l_take : FuncData} (O_l_take : FnOk P w K mg base CX0 1 f_l_take fd_l_take ["pool", "size"] (spP K ad 2 G_l_take)) (m_l_take : mg "_law_take" = some (.ref f_l_take)) (k_l_take : PySem.W.keepIn K (.ref f_l_take) = true) (b_l_take : Binds K fd_l_take ["pool", "size"] [])
    {f_l_trapped : Addr} {fd_l_trapped : FuncData} (O_l_trapped : FnOk P w K mg base CX0 10 f_l_trapped fd_l_trapped ["ab", "kinds", "triple", "habit", "climate", "sight", "rows"] (spP K ad 7 G_l_trapped)) (m_l_trapped : mg "_law_trapped" = some (.ref f_l_trapped)) (k_l_trapped : PySem.W.keepIn K (.ref f_l_trapped) = true) (b_l_trapped : Binds K fd_l_trapped ["ab", "kinds", "triple", "habit", "climate", "sight", "rows"] [])
    {f_l_triple : Addr} {fd_l_triple : FuncData} (O_l_triple : FnOk P w K mg base CX0 3 f_l_triple fd_l_triple ["ab", "plain", "head"] (spP K ad 3 G_l_triple)) (m_l_triple : mg "_law_triple" = some (.ref f_l_triple)) (k_l_triple : PySem.W.keepIn K (.ref f_l_triple) = true) (b_l_triple : Binds K fd_l_triple ["ab", "plain", "head"] [])
    {f_l_unsound : Addr} {fd_l_unsound : FuncData} (O_l_unsound : FnOk P w K mg base CX0 10 f_l_unsound fd_l_unsound ["lacquer", "climate", "sight", "habit", "kind"] (spP K ad 5 G_l_unsound)) (m_l_unsound : mg "_law_unsound" = some (.ref f_l_unsound)) (k_l_unsound : PySem.W.keepIn K (.ref f_l_unsound) = true) (b_l_unsound : Binds K fd_l_unsound ["lacquer", "climate", "sight", "habit", "kind"] [])
    {f_Climate_init : Addr} {fd_Climate_init : FuncData} (O_Climate_init : FnOk P w K mg base (L2.CX P w) 3 f_Climate_init fd_Climate_init ["self", "kinds"] (spP K ad 2 G_Climate_init)) (b_Climate_init : Binds K fd_Climate_init ["self", "kinds"] []) (I_Climate : Mk K (ad .Climate) f_Climate_init)
    {f_Habit_eager : Addr} {fd_Habit_eager : FuncData} (O_Habit_eager : FnOk P w K mg base (L2.CX P w) 4 f_Habit_eager fd_Habit_eager ["sight"] (spP K ad 1 G_Habit_eager)) (b_Habit_eager : Binds K fd_Habit_eager ["sight"] []) {p_Habit_eager : Addr} (SM_Habit_eager : SMet K (ad .Habit) (.type "type") "eager" p_Habit_eager f_Habit_eager) (k_Habit_eager : PySem.W.keepIn K (.ref f_Habit_eager) = true)
    {f_Habit_init : Addr} {fd_Habit_init : FuncData} (O_Habit_init : FnOk P w K mg base (L2.CX P w) 2 f_Habit_init fd_Habit_init ["self", "sight", "rows"] (spP K ad 3 G_Habit_init)) (b_Habit_init : Binds K fd_Habit_init ["self", "sight", "rows"] []) (I_Habit : Mk K (ad .Habit) f_Habit_init)
    {f_Lacquer_init : Addr} {fd_Lacquer_init : FuncData} (O_Lacquer_init : FnOk P w K mg base (L2.CX P w) 1 f_Lacquer_init fd_Lacquer_init ["self", "a", "b"] (spP K ad 3 G_Lacquer_init)) (b_Lacquer_init : Binds K fd_Lacquer_init ["self", "a", "b"] []) (I_Lacquer : Mk K (ad .Lacquer) f_Lacquer_init) :
    FnOk P w K mg base CX0 11 f fd ["script"] (spP K ad 1 G_l_law) :=
  ok0 (N := N_l_law) (s := B_l_law) F sc_l_law rfl rfl fun cdv A outer s H E hr =>
    (ss_c (s_set (i := 1) sc_l_law.nd rfl (by first | exact Or.inl rfl | exact Or.inr rfl) (pp_callN O_l_case (hr.mono (by decide)) (by rfl) m_l_case k_l_case b_l_case .nil pass0 (pp_call O_l_pool (hr.mono (by decide)) (by rfl) m_l_pool k_l_pool b_l_pool .nil pass0 (pq_c (pp_call O_l_cell (hr.mono (by decide)) (by rfl) m_l_cell k_l_cell b_l_cell .nil pass0 (pq_c (pp_v 0 (pv 0)) (pq_c (pp_c pe_int) pq_n)) .nil) pq_n) .nil) pq_n .nil))
    (ss_c (s_set (i := 2) sc_l_law.nd rfl (by first | exact Or.inl rfl | exact Or.inr rfl) (pp_ix rfl (pp_v 1 (pv 1)) (pp_c pe_int) (fun _ _ => rfl)))
    (ss_c (s_set (i := 3) sc_l_law.nd rfl (by first | exact Or.inl rfl | exact Or.inr rfl) (pp_ix rfl (pp_v 1 (pv 1)) (pp_c pe_int) (fun _ _ => rfl)))
    (ss_c (s_set (i := 4) sc_l_law.nd rfl (by first | exact Or.inl rfl | exact Or.inr rfl) (pp_ix rfl (pp_v 1 (pv 1)) (pp_c pe_int) (fun _ _ => rfl)))
    (ss_c (s_set (i := 5) sc_l_law.nd rfl (by first | exact Or.inl rfl | exact Or.inr rfl) (pp_ix rfl (pp_v 1 (pv 1)) (pp_c pe_int) (fun _ _ => rfl)))
    (ss_c (s_set (i := 6) sc_l_law.nd rfl (by first | exact Or.inl rfl | exact Or.inr rfl) (pp_call O_l_plain (hr.mono (by decide)) (by rfl) m_l_plain k_l_plain b_l_plain .nil pass0 (pq_c (pp_v 3 (pv 3)) pq_n) .nil))
    (ss_c (s_setLc (i := 7) (own := [("kind", 17)]) (by rfl) sc_l_law.nd rfl rfl (sw_true rfl rfl rfl (by decide +kernel)) (pi_l rfl (pp_v 6 (pv 6))) (blkOk_by (N := N_l_law) (sc := defScope s_l_law) (by decide +kernel)) (fun _ _ _ _ _ => (g_n (i := 17) sc_l_law.nd rfl (by first | exact Or.inl rfl | exact Or.inr rfl))) (fun _ _ _ _ _ => (pts_1 (pp_tcmp (op_neB hr.units) o_ne (pp_call O_l_fault (hr.mono (by decide)) (by rfl) m_l_fault k_l_fault b_l_fault .nil pass0 (pq_c (pp_ix rfl (pp_v 2 (pv 2)) (pp_c pe_int) (fun _ _ => rfl)) (pq_c (pp_ix rfl (pp_v 2 (pv 2)) (pp_c pe_int) (fun _ _ => rfl)) (pq_c (pp_v 17 (pv 17)) pq_n))) .nil) (pp_c pe_str) (nomark _)))) (fun _ _ _ _ _ => (pp_v 17 (pv 17))))
    (ss_c (s_set (i := 8) sc_l_law.nd rfl (by first | exact Or.inl rfl | exact Or.inr rfl) (pp_Tc ob_lst (c_lstA rfl) (by rfl) z_list (by decide +kernel) (pd_c (pp_v 3 (pv 3)) pd_n)))
    (ss_c (s_set (i := 9) sc_l_law.nd rfl (by first | exact Or.inl rfl | exact Or.inr rfl) (pp_make .Lacquer I_Lacquer O_Lacquer_init (hr.mono (by decide)) (by rfl) T_Lacquer.mg b_Lacquer_init .nil passL (pq_c (pp_ix rfl (pp_v 2 (pv 2)) (pp_c pe_int) (fun _ _ => rfl)) (pq_c (pp_ix rfl (pp_v 2 (pv 2)) (pp_c pe_int) (fun _ _ => rfl)) pq_n)) .nil))
    (ss_c (s_set (i := 10) sc_l_law.nd rfl (by first | exact Or.inl rfl | exact Or.inr rfl) (pp_make .Climate I_Climate O_Climate_init (hr.mono (by decide)) (by rfl) T_Climate.mg b_Climate_init .nil passL (pq_c (pp_v 8 (pv 8)) pq_n) .nil))
    (ss_c (s_set (i := 11) sc_l_law.nd rfl (by first | exact Or.inl rfl | exact Or.inr rfl) (pp_make .Habit I_Habit O_Habit_init (hr.mono (by decide)) (by rfl) T_Habit.mg b_Habit_init .nil passL (pq_c (pp_v 4 (pv 4)) (pq_c (pp_Tc ob_lst (c_lstA rfl) (by rfl) z_list (by decide +kernel) (pd_c (pp_v 5 (pv 5)) pd_n)) pq_n)) .nil))
    (ss_c (s_if (pp_tcmp op_gt o_gt (pp_B ob_len (c_lenA rfl) (by rfl) z_len (by decide +kernel) (pd_c (pp_v 7 (pv 7)) pd_n)) (pp_c pe_int) (nomark _))
    (ss_1 (s_ret (pp_van (pp_call O_l_unsound (hr.mono (by decide)) (by rfl) m_l_unsound k_l_unsound b_l_unsound .nil pass0 (pq_c (pp_v 9 (pv 9)) (pq_c (pp_v 10 (pv 10)) (pq_c (pp_v 4 (pv 4)) (pq_c (pp_v 11 (pv 11)) (pq_c (pp_ix rfl (pp_v 7 (pv 7)) (pp_c pe_int) (fun _ _ => rfl)) pq_n))))) .nil) (pe_one (pp_cmp (op_eqB hr.units) o_eq (pp_v 8 (pv 8)) (pp_v 3 (pv 3)) (nomark _))))))
    ss_n)
    (ss_c (s_set (i := 12) sc_l_law.nd rfl (by first | exact Or.inl rfl | exact Or.inr rfl) (pp_call O_l_head (hr.mono (by decide)) (by rfl) m_l_head k_l_head b_l_head .nil pass0 (pq_c (pp_ix rfl (pp_v 2 (pv 2)) (pp_c pe_int) (fun _ _ => rfl)) (pq_c (pp_ix rfl (pp_v 2 (pv 2)) (pp_c pe_int) (fun _ _ => rfl)) (pq_c (pp_v 6 (pv 6)) pq_n))) .nil))
    (ss_c (s_set (i := 13) sc_l_law.nd rfl (by first | exact Or.inl rfl | exact Or.inr rfl) (pp_c pe_non))
    (ss_c (s_if (pp_tcmp op_lt o_lt (pp_v 4 (pv 4)) (pp_v 12 (pv 12)) (nomark _))
    (ss_1 (s_set (i := 13) sc_l_law.nd rfl (by first | exact Or.inl rfl | exact Or.inr rfl) (pp_call O_l_triple (hr.mono (by decide)) (by rfl) m_l_triple k_l_triple b_l_triple .nil pass0 (pq_c (pp_v 2 (pv 2)) (pq_c (pp_v 6 (pv 6)) (pq_c (pp_v 12 (pv 12)) pq_n))) .nil)))
    ss_n)
    (ss_c (s_if (pp_tno (pp_tval (pp_call O_l_same (hr.mono (by decide)) (by rfl) m_l_same k_l_same b_l_same .nil pass0 (pq_c (pp_call O_f_trap (hr.mono (by decide)) (by rfl) m_f_trap k_f_trap b_f_trap .nil passL (pq_c (pp_v 9 (pv 9)) (pq_c (pp_v 10 (pv 10)) (pq_c (pp_v 4 (pv 4)) pq_n))) .nil) (pq_c (pp_v 13 (pv 13)) pq_n)) .nil)))
    (ss_1 (s_ret (pp_c pe_bl)))
    ss_n)
    (ss_c (s_setC (i := 14) sc_l_law.nd rfl (by first | exact Or.inl rfl | exact Or.inr rfl) (pp_call O_l_pool (hr.mono (by decide)) (by rfl) m_l_pool k_l_pool b_l_pool .nil pass0 (pq_c (pp_call O_l_cell (hr.mono (by decide)) (by rfl) m_l_cell k_l_cell b_l_cell .nil pass0 (pq_c (pp_v 0 (pv 0)) (pq_c (pp_c pe_int) pq_n)) .nil) pq_n) .nil))
    (ss_c (s_for PassesOwn.never rfl (pi_l rfl (pp_lst (pd_c (pp_call O_l_take (hr.mono (by decide)) (by rfl) m_l_take k_l_take b_l_take .nil pass0 (pq_k 14 (pv 14) (pq_c (pp_c pe_int) pq_n)) .nil) (pd_c (pp_B ob_max2 (OW.c_max2 rfl) (by rfl) z_max (by decide +kernel) (pd_c (pp_c pe_int) (pd_c (pp_2 op_sub o_sub (pp_v 12 (pv 12)) (pp_c pe_int)) pd_n))) (pd_c (pp_v 12 (pv 12)) (pd_c (pp_2 op_add o_add (pp_2 op_add o_add (pp_v 12 (pv 12)) (pp_c pe_int)) (pp_call O_l_take (hr.mono (by decide)) (by rfl) m_l_take k_l_take b_l_take .nil pass0 (pq_k 14 (pv 14) (pq_c (pp_c pe_int) pq_n)) .nil)) pd_n)))))) (g_n (i := 15) sc_l_law.nd rfl (by first | exact Or.inl rfl | exact Or.inr rfl))
    (ss_c (s_set (i := 16) sc_l_law.nd rfl (by first | exact Or.inl rfl | exact Or.inr rfl) (pp_c pe_non))
    (ss_c (s_if (pp_tcmp op_lt o_lt (pp_v 15 (pv 15)) (pp_v 12 (pv 12)) (nomark _))
    (ss_1 (s_set (i := 16) sc_l_law.nd rfl (by first | exact Or.inl rfl | exact Or.inr rfl) (pp_call O_l_triple (hr.mono (by decide)) (by rfl) m_l_triple k_l_triple b_l_triple .nil pass0 (pq_c (pp_v 2 (pv 2)) (pq_c (pp_v 6 (pv 6)) (pq_c (pp_v 12 (pv 12)) pq_n))) .nil)))
    ss_n)
    (ss_1 (s_if (pp_tno (pp_tval (pp_call O_l_same (hr.mono (by decide)) (by rfl) m_l_same k_l_same b_l_same .nil pass0 (pq_c (pp_call O_f_trap (hr.mono (by decide)) (by rfl) m_f_trap k_f_trap b_f_trap .nil passL (pq_c (pp_v 9 (pv 9)) (pq_c (pp_v 10 (pv 10)) (pq_c (pp_v 15 (pv 15)) pq_n))) .nil) (pq_c (pp_v 16 (pv 16)) pq_n)) .nil)))
    (ss_1 (s_ret (pp_c pe_bl)))
    ss_n)))))
    (ss_c (s_if (pp_tno (pp_tval (pp_call O_l_trapped (hr.mono (by decide)) (by rfl) m_l_trapped k_l_trapped b_l_trapped .nil pass0 (pq_c (pp_v 2 (pv 2)) (pq_c (pp_v 3 (pv 3)) (pq_c (pp_v 13 (pv 13)) (pq_c (pp_v 11 (pv 11)) (pq_c (pp_v 10 (pv 10)) (pq_c (pp_v 4 (pv 4)) (pq_c (pp_v 5 (pv 5)) pq_n))))))) .nil)))
    (ss_1 (s_ret (pp_c pe_bl)))
    ss_n)
    (ss_c (s_if (pp_tno (pp_tval (pp_call O_l_trapped (hr.mono (by decide)) (by rfl) m_l_trapped k_l_trapped b_l_trapped .nil pass0 (pq_c (pp_v 2 (pv 2)) (pq_c (pp_v 3 (pv 3)) (pq_c (pp_v 13 (pv 13)) (pq_c (pp_sm .Habit (C8.pe_gc (v := .ref (ad .Habit)) (by rfl) ⟨_, T_Habit.mg, rfl⟩) T_Habit.cr SM_Habit_eager k_Habit_eager O_Habit_eager (hr.mono (by decide)) b_Habit_eager passL (pq_c (pp_v 4 (pv 4)) pq_n)) (pq_c (pp_v 10 (pv 10)) (pq_c (pp_v 4 (pv 4)) (pq_c (pp_lst pd_n) pq_n))))))) .nil)))
    (ss_1 (s_ret (pp_c pe_bl)))
    ss_n)
    (ss_c (s_if (PW.pt (pp_woo (pp_tno (pp_tval (pp_call O_l_same (hr.mono (by decide)) (by rfl) m_l_same k_l_same b_l_same .nil pass0 (pq_c (pp_call O_f_trap (hr.mono (by decide)) (by rfl) m_f_trap k_f_trap b_f_trap .nil passL (pq_c (pp_v 9 (pv 9)) (pq_c (pp_v 10 (pv 10)) (pq_c (pp_v 4 (pv 4)) pq_n))) .nil) (pq_c (pp_v 13 (pv 13)) pq_n)) .nil))) (pw_or1 (pp_tcmp (op_neB hr.units) o_ne (pp_v 8 (pv 8)) (pp_v 3 (pv 3)) (nomark _)))))
    (ss_1 (s_ret (pp_c pe_bl)))
    ss_n)
    (ss_1 (s_ret (pp_call O_l_trapped (hr.mono (by decide)) (by rfl) m_l_trapped k_l_trapped b_l_trapped .nil pass0 (pq_c (pp_v 2 (pv 2)) (pq_c (pp_v 3 (pv 3)) (pq_c (pp_v 13 (pv 13)) (pq_c (pp_v 11 (pv 11)) (pq_c (pp_v 10 (pv 10)) (pq_c (pp_v 4 (pv 4)) (pq_c (pp_v 5 (pv 5)) pq_n))))))) .nil))))))))))))))))))))))))
end
end DP
section
set_option maxHeartbeats 3900000
namespace DP
open PySem PySem.Spec PyProof.Rows L2 PL
def adOf (C_BadHabit : Addr) (C_BadKind : Addr) (C_BadLacquer : Addr) (C_BadNumber : Addr) (C_Climate : Addr) (C_DampError : Addr) (C_Habit : Addr) (C_Lacquer : Addr) (C_Strange : Addr) (C_TooLarge : Addr) (C_Unsound : Addr) : Cl → Addr
  | .BadHabit => C_BadHabit
  | .BadKind => C_BadKind
  | .BadLacquer => C_BadLacquer
  | .BadNumber => C_BadNumber
  | .Climate => C_Climate
  | .DampError => C_DampError
  | .Habit => C_Habit
  | .Lacquer => C_Lacquer
  | .Strange => C_Strange
  | .TooLarge => C_TooLarge
  | .Unsound => C_Unsound
  | _ => 0
theorem all_mk {l : PySem.W.OpenLaw} {w : World} {K : PySem.W.Frag} {h : Heap} {mg : Str → Option Value} {fa : Addr} (X : K.In h) (G : h.Ns mainGlobals mg) (hfa : mg "law" = some (.ref fa))
    {C_BadHabit : Addr}
    {C_BadKind : Addr}
    {C_BadLacquer : Addr}
    {C_BadNumber : Addr}
    {C_Climate : Addr}
    {C_DampError : Addr}
    {C_Habit : Addr}
    {C_Lacquer : Addr}
    {tkc_Lacquer_v_MOST : Tok}
    {C_Strange : Addr}
    {C_TooLarge : Addr}
    {C_Unsound : Addr}
    {nm_Unsound q_Unsound : Str} {N_Unsound : Addr} {bs_Unsound bm_Unsound : List Value} {sn_Unsound : List Str} {sub_Unsound : List Value} {ab_Unsound : Bool} {col_Unsound : Option Bool} {dd_Unsound : Option Addr} {k0_Unsound k1_Unsound k2_Unsound k3_Unsound k5_Unsound : Option Value}
    {tkg_ANY : Tok}
    {tkg_CLOSE : Tok}
    {tkg_DAMP : Tok}
    {tkg_DRY : Tok}
    {tkg_LONG : Tok}
    {ta_MARKS : Addr} {td_MARKS : Option Addr} {tn_MARKS : Nat} {tsl_MARKS : Array (Option Value)} {tk_MARKS_0 : Tok} {tk_MARKS_1 : Tok} {tk_MARKS_2 : Tok}
    {tkg_MOST_AGE : Tok}
    {tkg_MOST_DRY : Tok}
    {tkg_MOST_KINDS : Tok}
    {tkg_MOST_ROWS : Tok}
    {tkg_MOST_RUN : Tok}
    {tkg_MOST_SIGHT : Tok}
    {tkg_MOST_SPELL : Tok}
    {f_f_check_kind : Addr} {od_f_check_kind an_f_check_kind : Option Addr} {sl_f_check_kind : Array (Option Value)} {oc_f_check_kind kV_f_check_kind dc_f_check_kind pm_f_check_kind cd_f_check_kind ct_f_check_kind : Value}
    {f_f_check_kinds : Addr} {od_f_check_kinds an_f_check_kinds : Option Addr} {sl_f_check_kinds : Array (Option Value)} {oc_f_check_kinds kV_f_check_kinds dc_f_check_kinds pm_f_check_kinds cd_f_check_kinds ct_f_check_kinds : Value}
    {f_f_plain_list : Addr} {od_f_plain_list an_f_plain_list : Option Addr} {sl_f_plain_list : Array (Option Value)} {oc_f_plain_list kV_f_plain_list dc_f_plain_list pm_f_plain_list cd_f_plain_list ct_f_plain_list : Value}
    {f_Climate_init : Addr} {od_Climate_init an_Climate_init : Option Addr} {sl_Climate_init : Array (Option Value)} {oc_Climate_init kV_Climate_init dc_Climate_init pm_Climate_init cd_Climate_init ct_Climate_init : Value}
    {f_f_is_row : Addr} {od_f_is_row an_f_is_row : Option Addr} {sl_f_is_row : Array (Option Value)} {oc_f_is_row kV_f_is_row dc_f_is_row pm_f_is_row cd_f_is_row ct_f_is_row : Value}
    {f_Habit_init : Addr} {od_Habit_init an_Habit_init : Option Addr} {sl_Habit_init : Array (Option Value)} {oc_Habit_init kV_Habit_init dc_Habit_init pm_Habit_init cd_Habit_init ct_Habit_init : Value}
    {f_Habit_eager : Addr} {od_Habit_eager an_Habit_eager : Option Addr} {sl_Habit_eager : Array (Option Value)} {oc_Habit_eager kV_Habit_eager dc_Habit_eager pm_Habit_eager cd_Habit_eager ct_Habit_eager : Value}
    {p_Habit_eager : Addr} {rest_Habit_eager : List Value}
    {f_Lacquer_init : Addr} {od_Lacquer_init an_Lacquer_init : Option Addr} {sl_Lacquer_init : Array (Option Value)} {oc_Lacquer_init kV_Lacquer_init dc_Lacquer_init pm_Lacquer_init cd_Lacquer_init ct_Lacquer_init : Value}
    {f_Climate_iter : Addr} {od_Climate_iter an_Climate_iter : Option Addr} {sl_Climate_iter : Array (Option Value)} {oc_Climate_iter kV_Climate_iter dc_Climate_iter pm_Climate_iter cd_Climate_iter ct_Climate_iter : Value}
    {f_Lacquer_slack : Addr} {od_Lacquer_slack an_Lacquer_slack : Option Addr} {sl_Lacquer_slack : Array (Option Value)} {oc_Lacquer_slack kV_Lacquer_slack dc_Lacquer_slack pm_Lacquer_slack cd_Lacquer_slack ct_Lacquer_slack : Value}
    {p_Lacquer_slack : Addr} {rest_Lacquer_slack : List Value}
    {f_f_ceil_div : Addr} {od_f_ceil_div an_f_ceil_div : Option Addr} {sl_f_ceil_div : Array (Option Value)} {oc_f_ceil_div kV_f_ceil_div dc_f_ceil_div pm_f_ceil_div cd_f_ceil_div ct_f_ceil_div : Value}
    {f_Lacquer_spans : Addr} {od_Lacquer_spans an_Lacquer_spans : Option Addr} {sl_Lacquer_spans : Array (Option Value)} {oc_Lacquer_spans kV_Lacquer_spans dc_Lacquer_spans pm_Lacquer_spans cd_Lacquer_spans ct_Lacquer_spans : Value}
    {f_Lacquer_lead : Addr} {od_Lacquer_lead an_Lacquer_lead : Option Addr} {sl_Lacquer_lead : Array (Option Value)} {oc_Lacquer_lead kV_Lacquer_lead dc_Lacquer_lead pm_Lacquer_lead cd_Lacquer_lead ct_Lacquer_lead : Value}
    {f_Unsound_init cda_Unsound_init cc_Unsound_init : Addr} {od_Unsound_init an_Unsound_init cdd_Unsound_init cld_Unsound_init : Option Addr} {sl_Unsound_init ccs_Unsound_init csl_Unsound_init : Array (Option Value)} {oc_Unsound_init kV_Unsound_init dc_Unsound_init pm_Unsound_init ct_Unsound_init ccl_Unsound_init cl_Unsound_init : Value} {vs_Unsound_init : Array Value} {file_Unsound_init : Str} {tf_Unsound_init : Tok} {cdD_Unsound_init : ClassData}
    {f_f_fault : Addr} {od_f_fault an_f_fault : Option Addr} {sl_f_fault : Array (Option Value)} {oc_f_fault kV_f_fault dc_f_fault pm_f_fault cd_f_fault ct_f_fault : Value}
    {f_f_is_sound_kind : Addr} {od_f_is_sound_kind an_f_is_sound_kind : Option Addr} {sl_f_is_sound_kind : Array (Option Value)} {oc_f_is_sound_kind kV_f_is_sound_kind dc_f_is_sound_kind pm_f_is_sound_kind cd_f_is_sound_kind ct_f_is_sound_kind : Value}
    {f_f_bad_kinds : Addr} {od_f_bad_kinds an_f_bad_kinds : Option Addr} {sl_f_bad_kinds : Array (Option Value)} {oc_f_bad_kinds kV_f_bad_kinds dc_f_bad_kinds pm_f_bad_kinds cd_f_bad_kinds ct_f_bad_kinds : Value}
    {f_f_check_sound : Addr} {od_f_check_sound an_f_check_sound : Option Addr} {sl_f_check_sound : Array (Option Value)} {oc_f_check_sound kV_f_check_sound dc_f_check_sound pm_f_check_sound cd_f_check_sound ct_f_check_sound : Value}
    {f_f_lead_of : Addr} {od_f_lead_of an_f_lead_of : Option Addr} {sl_f_lead_of : Array (Option Value)} {oc_f_lead_of kV_f_lead_of dc_f_lead_of pm_f_lead_of cd_f_lead_of ct_f_lead_of : Value}
    {f_f_trap : Addr} {od_f_trap an_f_trap : Option Addr} {sl_f_trap : Array (Option Value)} {oc_f_trap kV_f_trap dc_f_trap pm_f_trap cd_f_trap ct_f_trap : Value}
    {f_l_up : Addr} {od_l_up an_l_up : Option Addr} {sl_l_up : Array (Option Value)} {oc_l_up kV_l_up dc_l_up pm_l_up cd_l_up ct_l_up : Value}
    {f_l_lead : Addr} {od_l_lead an_l_lead : Option Addr} {sl_l_lead : Array (Option Value)} {oc_l_lead kV_l_lead dc_l_lead pm_l_lead cd_l_lead ct_l_lead : Value}
    {f_l_take : Addr} {od_l_take an_l_take : Option Addr} {sl_l_take : Array (Option Value)} {oc_l_take kV_l_take dc_l_take pm_l_take cd_l_take ct_l_take : Value}
    {f_l_bad : Addr} {od_l_bad an_l_bad : Option Addr} {sl_l_bad : Array (Option Value)} {oc_l_bad kV_l_bad dc_l_bad pm_l_bad cd_l_bad ct_l_bad : Value}
    {f_l_head : Addr} {od_l_head an_l_head : Option Addr} {sl_l_head : Array (Option Value)} {oc_l_head kV_l_head dc_l_head pm_l_head cd_l_head ct_l_head : Value}
    {f_l_rows : Addr} {od_l_rows an_l_rows : Option Addr} {sl_l_rows : Array (Option Value)} {oc_l_rows kV_l_rows dc_l_rows pm_l_rows cd_l_rows ct_l_rows : Value}
    {f_l_sound_kinds : Addr} {od_l_sound_kinds an_l_sound_kinds : Option Addr} {sl_l_sound_kinds : Array (Option Value)} {oc_l_sound_kinds kV_l_sound_kinds dc_l_sound_kinds pm_l_sound_kinds cd_l_sound_kinds ct_l_sound_kinds : Value}
    {f_l_steep : Addr} {od_l_steep an_l_steep : Option Addr} {sl_l_steep : Array (Option Value)} {oc_l_steep kV_l_steep dc_l_steep pm_l_steep cd_l_steep ct_l_steep : Value}
    {f_l_case : Addr} {od_l_case an_l_case : Option Addr} {sl_l_case : Array (Option Value)} {oc_l_case kV_l_case dc_l_case pm_l_case cd_l_case ct_l_case : Value}
    {f_l_cell : Addr} {od_l_cell an_l_cell : Option Addr} {sl_l_cell : Array (Option Value)} {oc_l_cell kV_l_cell dc_l_cell pm_l_cell cd_l_cell ct_l_cell : Value}
    {f_l_fault : Addr} {od_l_fault an_l_fault : Option Addr} {sl_l_fault : Array (Option Value)} {oc_l_fault kV_l_fault dc_l_fault pm_l_fault cd_l_fault ct_l_fault : Value}
    {f_l_least_run : Addr} {od_l_least_run an_l_least_run : Option Addr} {sl_l_least_run : Array (Option Value)} {oc_l_least_run kV_l_least_run dc_l_least_run pm_l_least_run cd_l_least_run ct_l_least_run : Value}
    {f_l_plain : Addr} {od_l_plain an_l_plain : Option Addr} {sl_l_plain : Array (Option Value)} {oc_l_plain kV_l_plain dc_l_plain pm_l_plain cd_l_plain ct_l_plain : Value}
    {f_l_pool : Addr} {od_l_pool an_l_pool : Option Addr} {sl_l_pool : Array (Option Value)} {oc_l_pool kV_l_pool dc_l_pool pm_l_pool cd_l_pool ct_l_pool : Value}
    {f_l_same : Addr} {od_l_same an_l_same : Option Addr} {sl_l_same : Array (Option Value)} {oc_l_same kV_l_same dc_l_same pm_l_same cd_l_same ct_l_same : Value}
    {f_f_matches : Addr} {od_f_matches an_f_matches : Option Addr} {sl_f_matches : Array (Option Value)} {oc_f_matches kV_f_matches dc_f_matches pm_f_matches cd_f_matches ct_f_matches : Value}
    {f_Habit_call : Addr} {od_Habit_call an_Habit_call : Option Addr} {sl_Habit_call : Array (Option Value)} {oc_Habit_call kV_Habit_call dc_Habit_call pm_Habit_call cd_Habit_call ct_Habit_call : Value}
    {f_Lacquer_contains : Addr} {od_Lacquer_contains an_Lacquer_contains : Option Addr} {sl_Lacquer_contains : Array (Option Value)} {oc_Lacquer_contains kV_Lacquer_contains dc_Lacquer_contains pm_Lacquer_contains cd_Lacquer_contains ct_Lacquer_contains : Value}
    {f_f_lays : Addr} {od_f_lays an_f_lays : Option Addr} {sl_f_lays : Array (Option Value)} {oc_f_lays kV_f_lays dc_f_lays pm_f_lays cd_f_lays ct_f_lays : Value}
    {f_f_played : Addr} {od_f_played an_f_played : Option Addr} {sl_f_played : Array (Option Value)} {oc_f_played kV_f_played dc_f_played pm_f_played cd_f_played ct_f_played : Value}
    {f_f_trap_weather : Addr} {od_f_trap_weather an_f_trap_weather : Option Addr} {sl_f_trap_weather : Array (Option Value)} {oc_f_trap_weather kV_f_trap_weather dc_f_trap_weather pm_f_trap_weather cd_f_trap_weather ct_f_trap_weather : Value}
    {f_l_answer : Addr} {od_l_answer an_l_answer : Option Addr} {sl_l_answer : Array (Option Value)} {oc_l_answer kV_l_answer dc_l_answer pm_l_answer cd_l_answer ct_l_answer : Value}
    {f_l_play : Addr} {od_l_play an_l_play : Option Addr} {sl_l_play : Array (Option Value)} {oc_l_play kV_l_play dc_l_play pm_l_play cd_l_play ct_l_play : Value}
    {f_l_steps : Addr} {od_l_steps an_l_steps : Option Addr} {sl_l_steps : Array (Option Value)} {oc_l_steps kV_l_steps dc_l_steps pm_l_steps cd_l_steps ct_l_steps : Value}
    {f_l_longest : Addr} {od_l_longest an_l_longest : Option Addr} {sl_l_longest : Array (Option Value)} {oc_l_longest kV_l_longest dc_l_longest pm_l_longest cd_l_longest ct_l_longest : Value}
    {f_l_breach : Addr} {od_l_breach an_l_breach : Option Addr} {sl_l_breach : Array (Option Value)} {oc_l_breach kV_l_breach dc_l_breach pm_l_breach cd_l_breach ct_l_breach : Value}
    {f_l_text : Addr} {od_l_text an_l_text : Option Addr} {sl_l_text : Array (Option Value)} {oc_l_text kV_l_text dc_l_text pm_l_text cd_l_text ct_l_text : Value}
    {f_l_trapped : Addr} {od_l_trapped an_l_trapped : Option Addr} {sl_l_trapped : Array (Option Value)} {oc_l_trapped kV_l_trapped dc_l_trapped pm_l_trapped cd_l_trapped ct_l_trapped : Value}
    {f_l_triple : Addr} {od_l_triple an_l_triple : Option Addr} {sl_l_triple : Array (Option Value)} {oc_l_triple kV_l_triple dc_l_triple pm_l_triple cd_l_triple ct_l_triple : Value}
    {f_l_unsound : Addr} {od_l_unsound an_l_unsound : Option Addr} {sl_l_unsound : Array (Option Value)} {oc_l_unsound kV_l_unsound dc_l_unsound pm_l_unsound cd_l_unsound ct_l_unsound : Value}
    {f_l_law : Addr} {od_l_law an_l_law : Option Addr} {sl_l_law : Array (Option Value)} {oc_l_law kV_l_law dc_l_law pm_l_law cd_l_law ct_l_law : Value}
    (a_BadHabit : PySem.W.nsIn K mainGlobals "BadHabit" = some (some (.ref C_BadHabit)))
    (c_BadHabit_x : PySem.W.excIn K C_BadHabit [.type "ValueError", .type "Exception", .type "BaseException", .type "object"] "ValueError.__new__" = true)
    (c_BadHabit_kp : PySem.W.keepIn K (.ref C_BadHabit) = true)
    (c_BadHabit_b : PySem.W.subIn K (.ref C_BadHabit) (.type "BaseException") = some true)
    (c_BadHabit_t : PySem.W.typeIn K (.ref C_BadHabit) = some (.type "type"))
    (c_BadHabit_i : PySem.W.isClsIn K C_BadHabit = true)
    (c_BadHabit_s : PySem.W.subIn K (.ref C_BadHabit) (.ref C_BadHabit) = some true)
    (c_BadHabit_hg : PySem.W.findIn K (.ref C_BadHabit) "__getattribute__" = some (some (.builtin "BaseException.__getattribute__")))
    (c_BadHabit_hk : PySem.W.findIn K (.ref C_BadHabit) "__getattr__" = some none)
    (c_BadHabit_hd : PySem.W.hasDictIn K C_BadHabit = true)
    (c_BadHabit_ha : PySem.W.findIn K (.ref C_BadHabit) "__class__" = some (some (.builtin "object.__class__")))
    (c_BadHabit_hn : PySem.W.specialIn K (.builtin "object.__class__") "__get__" = some (some (.builtin "getset_descriptor.__get__")))
    (c_BadHabit_ht : PySem.W.takesIn K (.builtin "object.__class__") = some true)
    (c_BadHabit_hm : PySem.W.mroIn K C_BadHabit (.type "object") = some true)
    (a_BadKind : PySem.W.nsIn K mainGlobals "BadKind" = some (some (.ref C_BadKind)))
    (c_BadKind_x : PySem.W.excIn K C_BadKind [.type "ValueError", .type "Exception", .type "BaseException", .type "object"] "ValueError.__new__" = true)
    (c_BadKind_kp : PySem.W.keepIn K (.ref C_BadKind) = true)
    (c_BadKind_b : PySem.W.subIn K (.ref C_BadKind) (.type "BaseException") = some true)
    (c_BadKind_t : PySem.W.typeIn K (.ref C_BadKind) = some (.type "type"))
    (c_BadKind_i : PySem.W.isClsIn K C_BadKind = true)
    (c_BadKind_s : PySem.W.subIn K (.ref C_BadKind) (.ref C_BadKind) = some true)
    (c_BadKind_hg : PySem.W.findIn K (.ref C_BadKind) "__getattribute__" = some (some (.builtin "BaseException.__getattribute__")))
    (c_BadKind_hk : PySem.W.findIn K (.ref C_BadKind) "__getattr__" = some none)
    (c_BadKind_hd : PySem.W.hasDictIn K C_BadKind = true)
    (c_BadKind_ha : PySem.W.findIn K (.ref C_BadKind) "__class__" = some (some (.builtin "object.__class__")))
    (c_BadKind_hn : PySem.W.specialIn K (.builtin "object.__class__") "__get__" = some (some (.builtin "getset_descriptor.__get__")))
    (c_BadKind_ht : PySem.W.takesIn K (.builtin "object.__class__") = some true)
    (c_BadKind_hm : PySem.W.mroIn K C_BadKind (.type "object") = some true)
    (a_BadLacquer : PySem.W.nsIn K mainGlobals "BadLacquer" = some (some (.ref C_BadLacquer)))
    (c_BadLacquer_x : PySem.W.excIn K C_BadLacquer [.type "ValueError", .type "Exception", .type "BaseException", .type "object"] "ValueError.__new__" = true)
    (c_BadLacquer_kp : PySem.W.keepIn K (.ref C_BadLacquer) = true)
    (c_BadLacquer_b : PySem.W.subIn K (.ref C_BadLacquer) (.type "BaseException") = some true)
    (c_BadLacquer_t : PySem.W.typeIn K (.ref C_BadLacquer) = some (.type "type"))
    (c_BadLacquer_i : PySem.W.isClsIn K C_BadLacquer = true)
    (c_BadLacquer_s : PySem.W.subIn K (.ref C_BadLacquer) (.ref C_BadLacquer) = some true)
    (c_BadLacquer_hg : PySem.W.findIn K (.ref C_BadLacquer) "__getattribute__" = some (some (.builtin "BaseException.__getattribute__")))
    (c_BadLacquer_hk : PySem.W.findIn K (.ref C_BadLacquer) "__getattr__" = some none)
    (c_BadLacquer_hd : PySem.W.hasDictIn K C_BadLacquer = true)
    (c_BadLacquer_ha : PySem.W.findIn K (.ref C_BadLacquer) "__class__" = some (some (.builtin "object.__class__")))
    (c_BadLacquer_hn : PySem.W.specialIn K (.builtin "object.__class__") "__get__" = some (some (.builtin "getset_descriptor.__get__")))
    (c_BadLacquer_ht : PySem.W.takesIn K (.builtin "object.__class__") = some true)
    (c_BadLacquer_hm : PySem.W.mroIn K C_BadLacquer (.type "object") = some true)
    (a_BadNumber : PySem.W.nsIn K mainGlobals "BadNumber" = some (some (.ref C_BadNumber)))
    (c_BadNumber_x : PySem.W.excIn K C_BadNumber [.type "ValueError", .type "Exception", .type "BaseException", .type "object"] "ValueError.__new__" = true)
    (c_BadNumber_kp : PySem.W.keepIn K (.ref C_BadNumber) = true)
    (c_BadNumber_b : PySem.W.subIn K (.ref C_BadNumber) (.type "BaseException") = some true)
    (c_BadNumber_t : PySem.W.typeIn K (.ref C_BadNumber) = some (.type "type"))
    (c_BadNumber_i : PySem.W.isClsIn K C_BadNumber = true)
    (c_BadNumber_s : PySem.W.subIn K (.ref C_BadNumber) (.ref C_BadNumber) = some true)
    (c_BadNumber_hg : PySem.W.findIn K (.ref C_BadNumber) "__getattribute__" = some (some (.builtin "BaseException.__getattribute__")))
    (c_BadNumber_hk : PySem.W.findIn K (.ref C_BadNumber) "__getattr__" = some none)
    (c_BadNumber_hd : PySem.W.hasDictIn K C_BadNumber = true)
    (c_BadNumber_ha : PySem.W.findIn K (.ref C_BadNumber) "__class__" = some (some (.builtin "object.__class__")))
    (c_BadNumber_hn : PySem.W.specialIn K (.builtin "object.__class__") "__get__" = some (some (.builtin "getset_descriptor.__get__")))
    (c_BadNumber_ht : PySem.W.takesIn K (.builtin "object.__class__") = some true)
    (c_BadNumber_hm : PySem.W.mroIn K C_BadNumber (.type "object") = some true)
    (a_Climate : PySem.W.nsIn K mainGlobals "Climate" = some (some (.ref C_Climate)))
    (c_Climate_pg : PySem.W.plainGet K C_Climate Str.empty = true)
    (c_Climate_hd : PySem.W.hasDictIn K C_Climate = true)
    (c_Climate_po : PySem.W.plainOver K C_Climate = true)
    (c_Climate_sa : PySem.W.findIn K (.ref C_Climate) "__setattr__" = some (some (.builtin "object.__setattr__")))
    (c_Climate_sf : PySem.W.selfFirst K C_Climate = true)
    (c_Climate_nf : PySem.W.notFirst K C_Climate (.ref C_Climate) = true)
    (c_Climate_ha : PySem.W.findIn K (.ref C_Climate) "__class__" = some (some (.builtin "object.__class__")))
    (c_Climate_hn : PySem.W.specialIn K (.builtin "object.__class__") "__get__" = some (some (.builtin "getset_descriptor.__get__")))
    (c_Climate_ht : PySem.W.takesIn K (.builtin "object.__class__") = some true)
    (c_Climate_hm : PySem.W.mroIn K C_Climate (.type "object") = some true)
    (c_Climate_kp : PySem.W.keepIn K (.ref C_Climate) = true)
    (c_Climate_mkk : PySem.W.makesIn K C_Climate = true)
    (c_Climate_n_kinds : PySem.W.findIn K (.ref C_Climate) "kinds" = some none)
    (a_DampError : PySem.W.nsIn K mainGlobals "DampError" = some (some (.ref C_DampError)))
    (c_DampError_x : PySem.W.excIn K C_DampError [.type "ValueError", .type "Exception", .type "BaseException", .type "object"] "ValueError.__new__" = true)
    (c_DampError_kp : PySem.W.keepIn K (.ref C_DampError) = true)
    (c_DampError_b : PySem.W.subIn K (.ref C_DampError) (.type "BaseException") = some true)
    (c_DampError_t : PySem.W.typeIn K (.ref C_DampError) = some (.type "type"))
    (c_DampError_i : PySem.W.isClsIn K C_DampError = true)
    (c_DampError_s : PySem.W.subIn K (.ref C_DampError) (.ref C_DampError) = some true)
    (c_DampError_hg : PySem.W.findIn K (.ref C_DampError) "__getattribute__" = some (some (.builtin "BaseException.__getattribute__")))
    (c_DampError_hk : PySem.W.findIn K (.ref C_DampError) "__getattr__" = some none)
    (c_DampError_hd : PySem.W.hasDictIn K C_DampError = true)
    (c_DampError_ha : PySem.W.findIn K (.ref C_DampError) "__class__" = some (some (.builtin "object.__class__")))
    (c_DampError_hn : PySem.W.specialIn K (.builtin "object.__class__") "__get__" = some (some (.builtin "getset_descriptor.__get__")))
    (c_DampError_ht : PySem.W.takesIn K (.builtin "object.__class__") = some true)
    (c_DampError_hm : PySem.W.mroIn K C_DampError (.type "object") = some true)
    (a_Habit : PySem.W.nsIn K mainGlobals "Habit" = some (some (.ref C_Habit)))
    (c_Habit_pg : PySem.W.plainGet K C_Habit Str.empty = true)
    (c_Habit_hd : PySem.W.hasDictIn K C_Habit = true)
    (c_Habit_po : PySem.W.plainOver K C_Habit = true)
    (c_Habit_sa : PySem.W.findIn K (.ref C_Habit) "__setattr__" = some (some (.builtin "object.__setattr__")))
    (c_Habit_sf : PySem.W.selfFirst K C_Habit = true)
    (c_Habit_nf : PySem.W.notFirst K C_Habit (.ref C_Habit) = true)
    (c_Habit_ha : PySem.W.findIn K (.ref C_Habit) "__class__" = some (some (.builtin "object.__class__")))
    (c_Habit_hn : PySem.W.specialIn K (.builtin "object.__class__") "__get__" = some (some (.builtin "getset_descriptor.__get__")))
    (c_Habit_ht : PySem.W.takesIn K (.builtin "object.__class__") = some true)
    (c_Habit_hm : PySem.W.mroIn K C_Habit (.type "object") = some true)
    (c_Habit_kp : PySem.W.keepIn K (.ref C_Habit) = true)
    (c_Habit_mkk : PySem.W.makesIn K C_Habit = true)
    (c_Habit_rd : PySem.W.readsIn K C_Habit (.type "type") = true)
    (c_Habit_ga : PySem.W.specialIn K (.ref C_Habit) "__getattribute__" = some (some (.builtin "type.__getattribute__")))
    (c_Habit_n_rows : PySem.W.findIn K (.ref C_Habit) "rows" = some none)
    (c_Habit_n_sight : PySem.W.findIn K (.ref C_Habit) "sight" = some none)
    (a_Lacquer : PySem.W.nsIn K mainGlobals "Lacquer" = some (some (.ref C_Lacquer)))
    (c_Lacquer_pg : PySem.W.plainGet K C_Lacquer Str.empty = true)
    (c_Lacquer_hd : PySem.W.hasDictIn K C_Lacquer = true)
    (c_Lacquer_po : PySem.W.plainOver K C_Lacquer = true)
    (c_Lacquer_sa : PySem.W.findIn K (.ref C_Lacquer) "__setattr__" = some (some (.builtin "object.__setattr__")))
    (c_Lacquer_sf : PySem.W.selfFirst K C_Lacquer = true)
    (c_Lacquer_nf : PySem.W.notFirst K C_Lacquer (.ref C_Lacquer) = true)
    (c_Lacquer_ha : PySem.W.findIn K (.ref C_Lacquer) "__class__" = some (some (.builtin "object.__class__")))
    (c_Lacquer_hn : PySem.W.specialIn K (.builtin "object.__class__") "__get__" = some (some (.builtin "getset_descriptor.__get__")))
    (c_Lacquer_ht : PySem.W.takesIn K (.builtin "object.__class__") = some true)
    (c_Lacquer_hm : PySem.W.mroIn K C_Lacquer (.type "object") = some true)
    (c_Lacquer_kp : PySem.W.keepIn K (.ref C_Lacquer) = true)
    (c_Lacquer_mkk : PySem.W.makesIn K C_Lacquer = true)
    (c_Lacquer_v_MOST : PySem.W.findCls K (.ref C_Lacquer) (.type "type") "MOST" = some (.val (.int 12 tkc_Lacquer_v_MOST)))
    (c_Lacquer_rd : PySem.W.readsIn K C_Lacquer (.type "type") = true)
    (c_Lacquer_ga : PySem.W.specialIn K (.ref C_Lacquer) "__getattribute__" = some (some (.builtin "type.__getattribute__")))
    (c_Lacquer_n_a : PySem.W.findIn K (.ref C_Lacquer) "a" = some none)
    (c_Lacquer_n_b : PySem.W.findIn K (.ref C_Lacquer) "b" = some none)
    (a_Strange : PySem.W.nsIn K mainGlobals "Strange" = some (some (.ref C_Strange)))
    (c_Strange_kp : PySem.W.keepIn K (.ref C_Strange) = true)
    (c_Strange_b : PySem.W.subIn K (.ref C_Strange) (.type "BaseException") = some true)
    (c_Strange_t : PySem.W.typeIn K (.ref C_Strange) = some (.type "type"))
    (c_Strange_i : PySem.W.isClsIn K C_Strange = true)
    (c_Strange_s : PySem.W.subIn K (.ref C_Strange) (.ref C_Strange) = some true)
    (c_Strange_hg : PySem.W.findIn K (.ref C_Strange) "__getattribute__" = some (some (.builtin "BaseException.__getattribute__")))
    (c_Strange_hk : PySem.W.findIn K (.ref C_Strange) "__getattr__" = some none)
    (c_Strange_hd : PySem.W.hasDictIn K C_Strange = true)
    (c_Strange_ha : PySem.W.findIn K (.ref C_Strange) "__class__" = some (some (.builtin "object.__class__")))
    (c_Strange_hn : PySem.W.specialIn K (.builtin "object.__class__") "__get__" = some (some (.builtin "getset_descriptor.__get__")))
    (c_Strange_ht : PySem.W.takesIn K (.builtin "object.__class__") = some true)
    (c_Strange_hm : PySem.W.mroIn K C_Strange (.type "object") = some true)
    (a_TooLarge : PySem.W.nsIn K mainGlobals "TooLarge" = some (some (.ref C_TooLarge)))
    (c_TooLarge_x : PySem.W.excIn K C_TooLarge [.type "ValueError", .type "Exception", .type "BaseException", .type "object"] "ValueError.__new__" = true)
    (c_TooLarge_kp : PySem.W.keepIn K (.ref C_TooLarge) = true)
    (c_TooLarge_b : PySem.W.subIn K (.ref C_TooLarge) (.type "BaseException") = some true)
    (c_TooLarge_t : PySem.W.typeIn K (.ref C_TooLarge) = some (.type "type"))
    (c_TooLarge_i : PySem.W.isClsIn K C_TooLarge = true)
    (c_TooLarge_s : PySem.W.subIn K (.ref C_TooLarge) (.ref C_TooLarge) = some true)
    (c_TooLarge_hg : PySem.W.findIn K (.ref C_TooLarge) "__getattribute__" = some (some (.builtin "BaseException.__getattribute__")))
    (c_TooLarge_hk : PySem.W.findIn K (.ref C_TooLarge) "__getattr__" = some none)
    (c_TooLarge_hd : PySem.W.hasDictIn K C_TooLarge = true)
    (c_TooLarge_ha : PySem.W.findIn K (.ref C_TooLarge) "__class__" = some (some (.builtin "object.__class__")))
    (c_TooLarge_hn : PySem.W.specialIn K (.builtin "object.__class__") "__get__" = some (some (.builtin "getset_descriptor.__get__")))
    (c_TooLarge_ht : PySem.W.takesIn K (.builtin "object.__class__") = some true)
    (c_TooLarge_hm : PySem.W.mroIn K C_TooLarge (.type "object") = some true)
    (a_Unsound : PySem.W.nsIn K mainGlobals "Unsound" = some (some (.ref C_Unsound)))
    (c_Unsound_kp : PySem.W.keepIn K (.ref C_Unsound) = true)
    (c_Unsound_b : PySem.W.subIn K (.ref C_Unsound) (.type "BaseException") = some true)
    (c_Unsound_t : PySem.W.typeIn K (.ref C_Unsound) = some (.type "type"))
    (c_Unsound_i : PySem.W.isClsIn K C_Unsound = true)
    (c_Unsound_s : PySem.W.subIn K (.ref C_Unsound) (.ref C_Unsound) = some true)
    (c_Unsound_hg : PySem.W.findIn K (.ref C_Unsound) "__getattribute__" = some (some (.builtin "BaseException.__getattribute__")))
    (c_Unsound_hk : PySem.W.findIn K (.ref C_Unsound) "__getattr__" = some none)
    (c_Unsound_hd : PySem.W.hasDictIn K C_Unsound = true)
    (c_Unsound_ha : PySem.W.findIn K (.ref C_Unsound) "__class__" = some (some (.builtin "object.__class__")))
    (c_Unsound_hn : PySem.W.specialIn K (.builtin "object.__class__") "__get__" = some (some (.builtin "getset_descriptor.__get__")))
    (c_Unsound_ht : PySem.W.takesIn K (.builtin "object.__class__") = some true)
    (c_Unsound_hm : PySem.W.mroIn K C_Unsound (.type "object") = some true)
    (c_Unsound_sa : PySem.W.findIn K (.ref C_Unsound) "__setattr__" = some (some (.builtin "object.__setattr__")))
    (c_Unsound_n_kind : PySem.W.findIn K (.ref C_Unsound) "kind" = some none)
    (c_Unsound_ox1 : K.lookup C_Unsound = some (excClassObj nm_Unsound q_Unsound C_Unsound N_Unsound bs_Unsound bm_Unsound true sn_Unsound sub_Unsound ab_Unsound col_Unsound dd_Unsound k0_Unsound k1_Unsound k2_Unsound k3_Unsound k5_Unsound "ValueError.__new__"))
    (c_Unsound_ox2 : PySem.HandSPX.refsVE bm_Unsound = true)
    (kit_NoneType_bool : PySem.W.kitOne K (.type "NoneType") (.type "bool") = some false)
    (kit_NoneType_int : PySem.W.kitOne K (.type "NoneType") (.type "int") = some false)
    (kit_NoneType_list : PySem.W.kitOne K (.type "NoneType") (.type "list") = some false)
    (kit_NoneType_str : PySem.W.kitOne K (.type "NoneType") (.type "str") = some false)
    (kit_NoneType_tuple : PySem.W.kitOne K (.type "NoneType") (.type "tuple") = some false)
    (kit_Unsound_DampError : PySem.W.kitOne K (.ref C_Unsound) (.ref C_DampError) = some true)
    (kit_Unsound_Strange : PySem.W.kitOne K (.ref C_Unsound) (.ref C_Strange) = some false)
    (kit_Unsound_TooLarge : PySem.W.kitOne K (.ref C_Unsound) (.ref C_TooLarge) = some false)
    (kit_Unsound_ValueError : PySem.W.kitOne K (.ref C_Unsound) (.type "ValueError") = some true)
    (kit_int_bool : PySem.W.kitOne K (.type "int") (.type "bool") = some false)
    (kit_int_int : PySem.W.kitOne K (.type "int") (.type "int") = some true)
    (kit_int_list : PySem.W.kitOne K (.type "int") (.type "list") = some false)
    (kit_int_str : PySem.W.kitOne K (.type "int") (.type "str") = some false)
    (kit_int_tuple : PySem.W.kitOne K (.type "int") (.type "tuple") = some false)
    (kit_str_bool : PySem.W.kitOne K (.type "str") (.type "bool") = some false)
    (kit_str_int : PySem.W.kitOne K (.type "str") (.type "int") = some false)
    (kit_str_list : PySem.W.kitOne K (.type "str") (.type "list") = some false)
    (kit_str_str : PySem.W.kitOne K (.type "str") (.type "str") = some true)
    (kit_str_tuple : PySem.W.kitOne K (.type "str") (.type "tuple") = some false)
    (kit_tuple_bool : PySem.W.kitOne K (.type "tuple") (.type "bool") = some false)
    (kit_tuple_int : PySem.W.kitOne K (.type "tuple") (.type "int") = some false)
    (kit_tuple_list : PySem.W.kitOne K (.type "tuple") (.type "list") = some false)
    (kit_tuple_str : PySem.W.kitOne K (.type "tuple") (.type "str") = some false)
    (kit_tuple_tuple : PySem.W.kitOne K (.type "tuple") (.type "tuple") = some true)
    (xm_BadHabit_Unsound : PySem.W.exmOne K (.ref C_BadHabit) (.ref C_Unsound) = some false)
    (xm_BadKind_Unsound : PySem.W.exmOne K (.ref C_BadKind) (.ref C_Unsound) = some false)
    (xm_BadLacquer_Unsound : PySem.W.exmOne K (.ref C_BadLacquer) (.ref C_Unsound) = some false)
    (xm_BadNumber_Unsound : PySem.W.exmOne K (.ref C_BadNumber) (.ref C_Unsound) = some false)
    (xm_DampError_Unsound : PySem.W.exmOne K (.ref C_DampError) (.ref C_Unsound) = some false)
    (xm_Strange_Unsound : PySem.W.exmOne K (.ref C_Strange) (.ref C_Unsound) = some false)
    (xm_TooLarge_Unsound : PySem.W.exmOne K (.ref C_TooLarge) (.ref C_Unsound) = some false)
    (xm_Unsound_Unsound : PySem.W.exmOne K (.ref C_Unsound) (.ref C_Unsound) = some true)
    (y_ValueError : PySem.W.nsIn K mainGlobals "ValueError" = some none)
    (y_all : PySem.W.nsIn K mainGlobals "all" = some none)
    (y_bool : PySem.W.nsIn K mainGlobals "bool" = some none)
    (y_int : PySem.W.nsIn K mainGlobals "int" = some none)
    (y_isinstance : PySem.W.nsIn K mainGlobals "isinstance" = some none)
    (y_iter : PySem.W.nsIn K mainGlobals "iter" = some none)
    (y_len : PySem.W.nsIn K mainGlobals "len" = some none)
    (y_list : PySem.W.nsIn K mainGlobals "list" = some none)
    (y_max : PySem.W.nsIn K mainGlobals "max" = some none)
    (y_min : PySem.W.nsIn K mainGlobals "min" = some none)
    (y_range : PySem.W.nsIn K mainGlobals "range" = some none)
    (y_sorted : PySem.W.nsIn K mainGlobals "sorted" = some none)
    (y_str : PySem.W.nsIn K mainGlobals "str" = some none)
    (y_super : PySem.W.nsIn K mainGlobals "super" = some none)
    (y_tuple : PySem.W.nsIn K mainGlobals "tuple" = some none)
    (y_zip : PySem.W.nsIn K mainGlobals "zip" = some none)
    (y_ANY : PySem.W.nsIn K mainGlobals "ANY" = some (some (.str "?" tkg_ANY)))
    (y_CLOSE : PySem.W.nsIn K mainGlobals "CLOSE" = some (some (.str "close" tkg_CLOSE)))
    (y_DAMP : PySem.W.nsIn K mainGlobals "DAMP" = some (some (.str "#" tkg_DAMP)))
    (y_DRY : PySem.W.nsIn K mainGlobals "DRY" = some (some (.str "." tkg_DRY)))
    (y_LONG : PySem.W.nsIn K mainGlobals "LONG" = some (some (.str "long" tkg_LONG)))
    (y_MARKS : PySem.W.nsIn K mainGlobals "MARKS" = some (some (.ref ta_MARKS)))
    (yl_MARKS : K.lookup ta_MARKS = some ⟨.type "tuple", td_MARKS, .seq #[.str "." tk_MARKS_0, .str "#" tk_MARKS_1, .str "?" tk_MARKS_2] tn_MARKS, tsl_MARKS⟩)
    (y_MOST_AGE : PySem.W.nsIn K mainGlobals "MOST_AGE" = some (some (.int 8 tkg_MOST_AGE)))
    (y_MOST_DRY : PySem.W.nsIn K mainGlobals "MOST_DRY" = some (some (.int 8 tkg_MOST_DRY)))
    (y_MOST_KINDS : PySem.W.nsIn K mainGlobals "MOST_KINDS" = some (some (.int 300 tkg_MOST_KINDS)))
    (y_MOST_ROWS : PySem.W.nsIn K mainGlobals "MOST_ROWS" = some (some (.int 40 tkg_MOST_ROWS)))
    (y_MOST_RUN : PySem.W.nsIn K mainGlobals "MOST_RUN" = some (some (.int 120 tkg_MOST_RUN)))
    (y_MOST_SIGHT : PySem.W.nsIn K mainGlobals "MOST_SIGHT" = some (some (.int 5 tkg_MOST_SIGHT)))
    (y_MOST_SPELL : PySem.W.nsIn K mainGlobals "MOST_SPELL" = some (some (.int 16 tkg_MOST_SPELL)))
    (a_f_check_kind : PySem.W.nsIn K mainGlobals "check_kind" = some (some (.ref f_f_check_kind)))
    (l_f_check_kind : K.lookup f_f_check_kind = some ⟨oc_f_check_kind, od_f_check_kind, .func (PySem.W.fnOf "check_kind" "check_kind" (defArgs s_f_check_kind) (defBody s_f_check_kind) (defScope s_f_check_kind) .none kV_f_check_kind dc_f_check_kind pm_f_check_kind an_f_check_kind cd_f_check_kind ct_f_check_kind), sl_f_check_kind⟩)
    (e_f_check_kind : PySem.W.codeIn K cd_f_check_kind "check_kind" = true)
    (k_f_check_kind : PySem.W.keepIn K (.ref f_f_check_kind) = true)
    (a_f_check_kinds : PySem.W.nsIn K mainGlobals "check_kinds" = some (some (.ref f_f_check_kinds)))
    (l_f_check_kinds : K.lookup f_f_check_kinds = some ⟨oc_f_check_kinds, od_f_check_kinds, .func (PySem.W.fnOf "check_kinds" "check_kinds" (defArgs s_f_check_kinds) (defBody s_f_check_kinds) (defScope s_f_check_kinds) .none kV_f_check_kinds dc_f_check_kinds pm_f_check_kinds an_f_check_kinds cd_f_check_kinds ct_f_check_kinds), sl_f_check_kinds⟩)
    (e_f_check_kinds : PySem.W.codeIn K cd_f_check_kinds "check_kinds" = true)
    (k_f_check_kinds : PySem.W.keepIn K (.ref f_f_check_kinds) = true)
    (a_f_plain_list : PySem.W.nsIn K mainGlobals "plain_list" = some (some (.ref f_f_plain_list)))
    (l_f_plain_list : K.lookup f_f_plain_list = some ⟨oc_f_plain_list, od_f_plain_list, .func (PySem.W.fnOf "plain_list" "plain_list" (defArgs s_f_plain_list) (defBody s_f_plain_list) (defScope s_f_plain_list) .none kV_f_plain_list dc_f_plain_list pm_f_plain_list an_f_plain_list cd_f_plain_list ct_f_plain_list), sl_f_plain_list⟩)
    (e_f_plain_list : PySem.W.codeIn K cd_f_plain_list "plain_list" = true)
    (k_f_plain_list : PySem.W.keepIn K (.ref f_f_plain_list) = true)
    (a_Climate_init : PySem.W.findIn K (.ref C_Climate) "__init__" = some (some (.ref f_Climate_init)))
    (j_Climate_init : PySem.W.isFn K (.ref f_Climate_init) = true)
    (l_Climate_init : K.lookup f_Climate_init = some ⟨oc_Climate_init, od_Climate_init, .func (PySem.W.fnOf "__init__" "Climate.__init__" (defArgs s_Climate_init) (defBody s_Climate_init) (defScope s_Climate_init) .none kV_Climate_init dc_Climate_init pm_Climate_init an_Climate_init cd_Climate_init ct_Climate_init), sl_Climate_init⟩)
    (e_Climate_init : PySem.W.codeIn K cd_Climate_init "Climate.__init__" = true)
    (k_Climate_init : PySem.W.keepIn K (.ref f_Climate_init) = true)
    (a_f_is_row : PySem.W.nsIn K mainGlobals "_is_row" = some (some (.ref f_f_is_row)))
    (l_f_is_row : K.lookup f_f_is_row = some ⟨oc_f_is_row, od_f_is_row, .func (PySem.W.fnOf "_is_row" "_is_row" (defArgs s_f_is_row) (defBody s_f_is_row) (defScope s_f_is_row) .none kV_f_is_row dc_f_is_row pm_f_is_row an_f_is_row cd_f_is_row ct_f_is_row), sl_f_is_row⟩)
    (e_f_is_row : PySem.W.codeIn K cd_f_is_row "_is_row" = true)
    (k_f_is_row : PySem.W.keepIn K (.ref f_f_is_row) = true)
    (a_Habit_init : PySem.W.findIn K (.ref C_Habit) "__init__" = some (some (.ref f_Habit_init)))
    (j_Habit_init : PySem.W.isFn K (.ref f_Habit_init) = true)
    (l_Habit_init : K.lookup f_Habit_init = some ⟨oc_Habit_init, od_Habit_init, .func (PySem.W.fnOf "__init__" "Habit.__init__" (defArgs s_Habit_init) (defBody s_Habit_init) (defScope s_Habit_init) .none kV_Habit_init dc_Habit_init pm_Habit_init an_Habit_init cd_Habit_init ct_Habit_init), sl_Habit_init⟩)
    (e_Habit_init : PySem.W.codeIn K cd_Habit_init "Habit.__init__" = true)
    (k_Habit_init : PySem.W.keepIn K (.ref f_Habit_init) = true)
    (a_Habit_eager : PySem.W.findCls K (.ref C_Habit) (.type "type") "eager" = some (.get (.builtin "staticmethod.__get__") (.ref p_Habit_eager) .none (.ref C_Habit)))
    (pr_Habit_eager : PySem.W.recIn K p_Habit_eager "staticmethod" = some (.ref f_Habit_eager :: rest_Habit_eager))
    (l_Habit_eager : K.lookup f_Habit_eager = some ⟨oc_Habit_eager, od_Habit_eager, .func (PySem.W.fnOf "eager" "Habit.eager" (defArgs s_Habit_eager) (defBody s_Habit_eager) (defScope s_Habit_eager) .none kV_Habit_eager dc_Habit_eager pm_Habit_eager an_Habit_eager cd_Habit_eager ct_Habit_eager), sl_Habit_eager⟩)
    (e_Habit_eager : PySem.W.codeIn K cd_Habit_eager "Habit.eager" = true)
    (k_Habit_eager : PySem.W.keepIn K (.ref f_Habit_eager) = true)
    (a_Lacquer_init : PySem.W.findIn K (.ref C_Lacquer) "__init__" = some (some (.ref f_Lacquer_init)))
    (j_Lacquer_init : PySem.W.isFn K (.ref f_Lacquer_init) = true)
    (l_Lacquer_init : K.lookup f_Lacquer_init = some ⟨oc_Lacquer_init, od_Lacquer_init, .func (PySem.W.fnOf "__init__" "Lacquer.__init__" (defArgs s_Lacquer_init) (defBody s_Lacquer_init) (defScope s_Lacquer_init) .none kV_Lacquer_init dc_Lacquer_init pm_Lacquer_init an_Lacquer_init cd_Lacquer_init ct_Lacquer_init), sl_Lacquer_init⟩)
    (e_Lacquer_init : PySem.W.codeIn K cd_Lacquer_init "Lacquer.__init__" = true)
    (k_Lacquer_init : PySem.W.keepIn K (.ref f_Lacquer_init) = true)
    (a_Climate_iter : PySem.W.findIn K (.ref C_Climate) "__iter__" = some (some (.ref f_Climate_iter)))
    (j_Climate_iter : PySem.W.isFn K (.ref f_Climate_iter) = true)
    (l_Climate_iter : K.lookup f_Climate_iter = some ⟨oc_Climate_iter, od_Climate_iter, .func (PySem.W.fnOf "__iter__" "Climate.__iter__" (defArgs s_Climate_iter) (defBody s_Climate_iter) (defScope s_Climate_iter) .none kV_Climate_iter dc_Climate_iter pm_Climate_iter an_Climate_iter cd_Climate_iter ct_Climate_iter), sl_Climate_iter⟩)
    (e_Climate_iter : PySem.W.codeIn K cd_Climate_iter "Climate.__iter__" = true)
    (k_Climate_iter : PySem.W.keepIn K (.ref f_Climate_iter) = true)
    (a_Lacquer_slack : PySem.W.findIn K (.ref C_Lacquer) "slack" = some (some (.ref p_Lacquer_slack)))
    (pg_Lacquer_slack : PySem.W.specialIn K (.ref p_Lacquer_slack) "__get__" = some (some (.builtin "property.__get__")))
    (pt_Lacquer_slack : PySem.W.takesIn K (.ref p_Lacquer_slack) = some true)
    (pr_Lacquer_slack : PySem.W.recIn K p_Lacquer_slack "property" = some (.ref f_Lacquer_slack :: rest_Lacquer_slack))
    (l_Lacquer_slack : K.lookup f_Lacquer_slack = some ⟨oc_Lacquer_slack, od_Lacquer_slack, .func (PySem.W.fnOf "slack" "Lacquer.slack" (defArgs s_Lacquer_slack) (defBody s_Lacquer_slack) (defScope s_Lacquer_slack) .none kV_Lacquer_slack dc_Lacquer_slack pm_Lacquer_slack an_Lacquer_slack cd_Lacquer_slack ct_Lacquer_slack), sl_Lacquer_slack⟩)
    (e_Lacquer_slack : PySem.W.codeIn K cd_Lacquer_slack "Lacquer.slack" = true)
    (k_Lacquer_slack : PySem.W.keepIn K (.ref f_Lacquer_slack) = true)
    (a_f_ceil_div : PySem.W.nsIn K mainGlobals "ceil_div" = some (some (.ref f_f_ceil_div)))
    (l_f_ceil_div : K.lookup f_f_ceil_div = some ⟨oc_f_ceil_div, od_f_ceil_div, .func (PySem.W.fnOf "ceil_div" "ceil_div" (defArgs s_f_ceil_div) (defBody s_f_ceil_div) (defScope s_f_ceil_div) .none kV_f_ceil_div dc_f_ceil_div pm_f_ceil_div an_f_ceil_div cd_f_ceil_div ct_f_ceil_div), sl_f_ceil_div⟩)
    (e_f_ceil_div : PySem.W.codeIn K cd_f_ceil_div "ceil_div" = true)
    (k_f_ceil_div : PySem.W.keepIn K (.ref f_f_ceil_div) = true)
    (a_Lacquer_spans : PySem.W.findIn K (.ref C_Lacquer) "spans" = some (some (.ref f_Lacquer_spans)))
    (j_Lacquer_spans : PySem.W.isFn K (.ref f_Lacquer_spans) = true)
    (l_Lacquer_spans : K.lookup f_Lacquer_spans = some ⟨oc_Lacquer_spans, od_Lacquer_spans, .func (PySem.W.fnOf "spans" "Lacquer.spans" (defArgs s_Lacquer_spans) (defBody s_Lacquer_spans) (defScope s_Lacquer_spans) .none kV_Lacquer_spans dc_Lacquer_spans pm_Lacquer_spans an_Lacquer_spans cd_Lacquer_spans ct_Lacquer_spans), sl_Lacquer_spans⟩)
    (e_Lacquer_spans : PySem.W.codeIn K cd_Lacquer_spans "Lacquer.spans" = true)
    (k_Lacquer_spans : PySem.W.keepIn K (.ref f_Lacquer_spans) = true)
    (a_Lacquer_lead : PySem.W.findIn K (.ref C_Lacquer) "lead" = some (some (.ref f_Lacquer_lead)))
    (j_Lacquer_lead : PySem.W.isFn K (.ref f_Lacquer_lead) = true)
    (l_Lacquer_lead : K.lookup f_Lacquer_lead = some ⟨oc_Lacquer_lead, od_Lacquer_lead, .func (PySem.W.fnOf "lead" "Lacquer.lead" (defArgs s_Lacquer_lead) (defBody s_Lacquer_lead) (defScope s_Lacquer_lead) .none kV_Lacquer_lead dc_Lacquer_lead pm_Lacquer_lead an_Lacquer_lead cd_Lacquer_lead ct_Lacquer_lead), sl_Lacquer_lead⟩)
    (e_Lacquer_lead : PySem.W.codeIn K cd_Lacquer_lead "Lacquer.lead" = true)
    (k_Lacquer_lead : PySem.W.keepIn K (.ref f_Lacquer_lead) = true)
    (a_Unsound_init : PySem.W.findIn K (.ref C_Unsound) "__init__" = some (some (.ref f_Unsound_init)))
    (j_Unsound_init : PySem.W.typeIn K (.ref f_Unsound_init) = some (.type "function"))
    (l_Unsound_init : K.lookup f_Unsound_init = some ⟨oc_Unsound_init, od_Unsound_init, .func (PySem.W.ksFn "__init__" "Unsound.__init__" (defArgs s_Unsound_init) (defBody s_Unsound_init) (defScope s_Unsound_init) .none kV_Unsound_init dc_Unsound_init pm_Unsound_init an_Unsound_init (.ref cda_Unsound_init) ct_Unsound_init cc_Unsound_init), sl_Unsound_init⟩)
    (e_Unsound_init : PySem.W.codeIn K (.ref cda_Unsound_init) "Unsound.__init__" = true)
    (p1_Unsound_init : K.lookup cda_Unsound_init = some ⟨ccl_Unsound_init, cdd_Unsound_init, .fields vs_Unsound_init, ccs_Unsound_init⟩)
    (p2_Unsound_init : vs_Unsound_init[2]? = some (.str file_Unsound_init tf_Unsound_init))
    (p3_Unsound_init : ((l.prog.main.file : Str) == file_Unsound_init) = true)
    (p4_Unsound_init : K.lookup cc_Unsound_init = some ⟨cl_Unsound_init, cld_Unsound_init, .cell (some (.ref C_Unsound)), csl_Unsound_init⟩)
    (p5_Unsound_init : PySem.W.clsIn K C_Unsound = some cdD_Unsound_init)
    (p6_Unsound_init : PySem.W.mroIn K C_Unsound (.ref C_Unsound) = some true)
    (p7_Unsound_init : (l.prog.main.scope.names.lookup ("super" : Str)).isSome = false)
    (p8_Unsound_init : PySem.W.nsIn K PySem.cStatics "thirdparty.any" = some none)
    (p9_Unsound_init : PySem.W.ks_superIn K C_Unsound C_Unsound "__init__" = some (some (.builtin "ValueError.__init__")))
    (pa_Unsound_init : PySem.W.subIn K (.ref C_Unsound) (.type "ValueError") = some true)
    (pb_Unsound_init : PySem.W.excInitIn K C_Unsound EX.bmVE "ValueError.__new__" = true)
    (a_f_fault : PySem.W.nsIn K mainGlobals "_fault" = some (some (.ref f_f_fault)))
    (l_f_fault : K.lookup f_f_fault = some ⟨oc_f_fault, od_f_fault, .func (PySem.W.fnOf "_fault" "_fault" (defArgs s_f_fault) (defBody s_f_fault) (defScope s_f_fault) .none kV_f_fault dc_f_fault pm_f_fault an_f_fault cd_f_fault ct_f_fault), sl_f_fault⟩)
    (e_f_fault : PySem.W.codeIn K cd_f_fault "_fault" = true)
    (k_f_fault : PySem.W.keepIn K (.ref f_f_fault) = true)
    (a_f_is_sound_kind : PySem.W.nsIn K mainGlobals "is_sound_kind" = some (some (.ref f_f_is_sound_kind)))
    (l_f_is_sound_kind : K.lookup f_f_is_sound_kind = some ⟨oc_f_is_sound_kind, od_f_is_sound_kind, .func (PySem.W.fnOf "is_sound_kind" "is_sound_kind" (defArgs s_f_is_sound_kind) (defBody s_f_is_sound_kind) (defScope s_f_is_sound_kind) .none kV_f_is_sound_kind dc_f_is_sound_kind pm_f_is_sound_kind an_f_is_sound_kind cd_f_is_sound_kind ct_f_is_sound_kind), sl_f_is_sound_kind⟩)
    (e_f_is_sound_kind : PySem.W.codeIn K cd_f_is_sound_kind "is_sound_kind" = true)
    (k_f_is_sound_kind : PySem.W.keepIn K (.ref f_f_is_sound_kind) = true)
    (a_f_bad_kinds : PySem.W.nsIn K mainGlobals "bad_kinds" = some (some (.ref f_f_bad_kinds)))
    (l_f_bad_kinds : K.lookup f_f_bad_kinds = some ⟨oc_f_bad_kinds, od_f_bad_kinds, .func (PySem.W.fnOf "bad_kinds" "bad_kinds" (defArgs s_f_bad_kinds) (defBody s_f_bad_kinds) (defScope s_f_bad_kinds) .none kV_f_bad_kinds dc_f_bad_kinds pm_f_bad_kinds an_f_bad_kinds cd_f_bad_kinds ct_f_bad_kinds), sl_f_bad_kinds⟩)
    (e_f_bad_kinds : PySem.W.codeIn K cd_f_bad_kinds "bad_kinds" = true)
    (k_f_bad_kinds : PySem.W.keepIn K (.ref f_f_bad_kinds) = true)
    (a_f_check_sound : PySem.W.nsIn K mainGlobals "check_sound" = some (some (.ref f_f_check_sound)))
    (l_f_check_sound : K.lookup f_f_check_sound = some ⟨oc_f_check_sound, od_f_check_sound, .func (PySem.W.fnOf "check_sound" "check_sound" (defArgs s_f_check_sound) (defBody s_f_check_sound) (defScope s_f_check_sound) .none kV_f_check_sound dc_f_check_sound pm_f_check_sound an_f_check_sound cd_f_check_sound ct_f_check_sound), sl_f_check_sound⟩)
    (e_f_check_sound : PySem.W.codeIn K cd_f_check_sound "check_sound" = true)
    (k_f_check_sound : PySem.W.keepIn K (.ref f_f_check_sound) = true)
    (a_f_lead_of : PySem.W.nsIn K mainGlobals "lead_of" = some (some (.ref f_f_lead_of)))
    (l_f_lead_of : K.lookup f_f_lead_of = some ⟨oc_f_lead_of, od_f_lead_of, .func (PySem.W.fnOf "lead_of" "lead_of" (defArgs s_f_lead_of) (defBody s_f_lead_of) (defScope s_f_lead_of) .none kV_f_lead_of dc_f_lead_of pm_f_lead_of an_f_lead_of cd_f_lead_of ct_f_lead_of), sl_f_lead_of⟩)
    (e_f_lead_of : PySem.W.codeIn K cd_f_lead_of "lead_of" = true)
    (k_f_lead_of : PySem.W.keepIn K (.ref f_f_lead_of) = true)
    (a_f_trap : PySem.W.nsIn K mainGlobals "trap" = some (some (.ref f_f_trap)))
    (l_f_trap : K.lookup f_f_trap = some ⟨oc_f_trap, od_f_trap, .func (PySem.W.fnOf "trap" "trap" (defArgs s_f_trap) (defBody s_f_trap) (defScope s_f_trap) .none kV_f_trap dc_f_trap pm_f_trap an_f_trap cd_f_trap ct_f_trap), sl_f_trap⟩)
    (e_f_trap : PySem.W.codeIn K cd_f_trap "trap" = true)
    (k_f_trap : PySem.W.keepIn K (.ref f_f_trap) = true)
    (a_l_up : PySem.W.nsIn K mainGlobals "_law_up" = some (some (.ref f_l_up)))
    (l_l_up : K.lookup f_l_up = some ⟨oc_l_up, od_l_up, .func (PySem.W.fnOf "_law_up" "_law_up" (defArgs s_l_up) (defBody s_l_up) (defScope s_l_up) .none kV_l_up dc_l_up pm_l_up an_l_up cd_l_up ct_l_up), sl_l_up⟩)
    (e_l_up : PySem.W.codeIn K cd_l_up "_law_up" = true)
    (k_l_up : PySem.W.keepIn K (.ref f_l_up) = true)
    (a_l_lead : PySem.W.nsIn K mainGlobals "_law_lead" = some (some (.ref f_l_lead)))
    (l_l_lead : K.lookup f_l_lead = some ⟨oc_l_lead, od_l_lead, .func (PySem.W.fnOf "_law_lead" "_law_lead" (defArgs s_l_lead) (defBody s_l_lead) (defScope s_l_lead) .none kV_l_lead dc_l_lead pm_l_lead an_l_lead cd_l_lead ct_l_lead), sl_l_lead⟩)
    (e_l_lead : PySem.W.codeIn K cd_l_lead "_law_lead" = true)
    (k_l_lead : PySem.W.keepIn K (.ref f_l_lead) = true)
    (a_l_take : PySem.W.nsIn K mainGlobals "_law_take" = some (some (.ref f_l_take)))
    (l_l_take : K.lookup f_l_take = some ⟨oc_l_take, od_l_take, .func (PySem.W.fnOf "_law_take" "_law_take" (defArgs s_l_take) (defBody s_l_take) (defScope s_l_take) .none kV_l_take dc_l_take pm_l_take an_l_take cd_l_take ct_l_take), sl_l_take⟩)
    (e_l_take : PySem.W.codeIn K cd_l_take "_law_take" = true)
    (k_l_take : PySem.W.keepIn K (.ref f_l_take) = true)
    (a_l_bad : PySem.W.nsIn K mainGlobals "_law_bad" = some (some (.ref f_l_bad)))
    (l_l_bad : K.lookup f_l_bad = some ⟨oc_l_bad, od_l_bad, .func (PySem.W.fnOf "_law_bad" "_law_bad" (defArgs s_l_bad) (defBody s_l_bad) (defScope s_l_bad) .none kV_l_bad dc_l_bad pm_l_bad an_l_bad cd_l_bad ct_l_bad), sl_l_bad⟩)
    (e_l_bad : PySem.W.codeIn K cd_l_bad "_law_bad" = true)
    (k_l_bad : PySem.W.keepIn K (.ref f_l_bad) = true)
    (a_l_head : PySem.W.nsIn K mainGlobals "_law_head" = some (some (.ref f_l_head)))
    (l_l_head : K.lookup f_l_head = some ⟨oc_l_head, od_l_head, .func (PySem.W.fnOf "_law_head" "_law_head" (defArgs s_l_head) (defBody s_l_head) (defScope s_l_head) .none kV_l_head dc_l_head pm_l_head an_l_head cd_l_head ct_l_head), sl_l_head⟩)
    (e_l_head : PySem.W.codeIn K cd_l_head "_law_head" = true)
    (k_l_head : PySem.W.keepIn K (.ref f_l_head) = true)
    (a_l_rows : PySem.W.nsIn K mainGlobals "_law_rows" = some (some (.ref f_l_rows)))
    (l_l_rows : K.lookup f_l_rows = some ⟨oc_l_rows, od_l_rows, .func (PySem.W.fnOf "_law_rows" "_law_rows" (defArgs s_l_rows) (defBody s_l_rows) (defScope s_l_rows) .none kV_l_rows dc_l_rows pm_l_rows an_l_rows cd_l_rows ct_l_rows), sl_l_rows⟩)
    (e_l_rows : PySem.W.codeIn K cd_l_rows "_law_rows" = true)
    (k_l_rows : PySem.W.keepIn K (.ref f_l_rows) = true)
    (a_l_sound_kinds : PySem.W.nsIn K mainGlobals "_law_sound_kinds" = some (some (.ref f_l_sound_kinds)))
    (l_l_sound_kinds : K.lookup f_l_sound_kinds = some ⟨oc_l_sound_kinds, od_l_sound_kinds, .func (PySem.W.fnOf "_law_sound_kinds" "_law_sound_kinds" (defArgs s_l_sound_kinds) (defBody s_l_sound_kinds) (defScope s_l_sound_kinds) .none kV_l_sound_kinds dc_l_sound_kinds pm_l_sound_kinds an_l_sound_kinds cd_l_sound_kinds ct_l_sound_kinds), sl_l_sound_kinds⟩)
    (e_l_sound_kinds : PySem.W.codeIn K cd_l_sound_kinds "_law_sound_kinds" = true)
    (k_l_sound_kinds : PySem.W.keepIn K (.ref f_l_sound_kinds) = true)
    (a_l_steep : PySem.W.nsIn K mainGlobals "_law_steep" = some (some (.ref f_l_steep)))
    (l_l_steep : K.lookup f_l_steep = some ⟨oc_l_steep, od_l_steep, .func (PySem.W.fnOf "_law_steep" "_law_steep" (defArgs s_l_steep) (defBody s_l_steep) (defScope s_l_steep) .none kV_l_steep dc_l_steep pm_l_steep an_l_steep cd_l_steep ct_l_steep), sl_l_steep⟩)
    (e_l_steep : PySem.W.codeIn K cd_l_steep "_law_steep" = true)
    (k_l_steep : PySem.W.keepIn K (.ref f_l_steep) = true)
    (a_l_case : PySem.W.nsIn K mainGlobals "_law_case" = some (some (.ref f_l_case)))
    (l_l_case : K.lookup f_l_case = some ⟨oc_l_case, od_l_case, .func (PySem.W.fnOf "_law_case" "_law_case" (defArgs s_l_case) (defBody s_l_case) (defScope s_l_case) .none kV_l_case dc_l_case pm_l_case an_l_case cd_l_case ct_l_case), sl_l_case⟩)
    (e_l_case : PySem.W.codeIn K cd_l_case "_law_case" = true)
    (k_l_case : PySem.W.keepIn K (.ref f_l_case) = true)
    (a_l_cell : PySem.W.nsIn K mainGlobals "_law_cell" = some (some (.ref f_l_cell)))
    (l_l_cell : K.lookup f_l_cell = some ⟨oc_l_cell, od_l_cell, .func (PySem.W.fnOf "_law_cell" "_law_cell" (defArgs s_l_cell) (defBody s_l_cell) (defScope s_l_cell) .none kV_l_cell dc_l_cell pm_l_cell an_l_cell cd_l_cell ct_l_cell), sl_l_cell⟩)
    (e_l_cell : PySem.W.codeIn K cd_l_cell "_law_cell" = true)
    (k_l_cell : PySem.W.keepIn K (.ref f_l_cell) = true)
    (a_l_fault : PySem.W.nsIn K mainGlobals "_law_fault" = some (some (.ref f_l_fault)))
    (l_l_fault : K.lookup f_l_fault = some ⟨oc_l_fault, od_l_fault, .func (PySem.W.fnOf "_law_fault" "_law_fault" (defArgs s_l_fault) (defBody s_l_fault) (defScope s_l_fault) .none kV_l_fault dc_l_fault pm_l_fault an_l_fault cd_l_fault ct_l_fault), sl_l_fault⟩)
    (e_l_fault : PySem.W.codeIn K cd_l_fault "_law_fault" = true)
    (k_l_fault : PySem.W.keepIn K (.ref f_l_fault) = true)
    (a_l_least_run : PySem.W.nsIn K mainGlobals "_law_least_run" = some (some (.ref f_l_least_run)))
    (l_l_least_run : K.lookup f_l_least_run = some ⟨oc_l_least_run, od_l_least_run, .func (PySem.W.fnOf "_law_least_run" "_law_least_run" (defArgs s_l_least_run) (defBody s_l_least_run) (defScope s_l_least_run) .none kV_l_least_run dc_l_least_run pm_l_least_run an_l_least_run cd_l_least_run ct_l_least_run), sl_l_least_run⟩)
    (e_l_least_run : PySem.W.codeIn K cd_l_least_run "_law_least_run" = true)
    (k_l_least_run : PySem.W.keepIn K (.ref f_l_least_run) = true)
    (a_l_plain : PySem.W.nsIn K mainGlobals "_law_plain" = some (some (.ref f_l_plain)))
    (l_l_plain : K.lookup f_l_plain = some ⟨oc_l_plain, od_l_plain, .func (PySem.W.fnOf "_law_plain" "_law_plain" (defArgs s_l_plain) (defBody s_l_plain) (defScope s_l_plain) .none kV_l_plain dc_l_plain pm_l_plain an_l_plain cd_l_plain ct_l_plain), sl_l_plain⟩)
    (e_l_plain : PySem.W.codeIn K cd_l_plain "_law_plain" = true)
    (k_l_plain : PySem.W.keepIn K (.ref f_l_plain) = true)
    (a_l_pool : PySem.W.nsIn K mainGlobals "_law_pool" = some (some (.ref f_l_pool)))
    (l_l_pool : K.lookup f_l_pool = some ⟨oc_l_pool, od_l_pool, .func (PySem.W.fnOf "_law_pool" "_law_pool" (defArgs s_l_pool) (defBody s_l_pool) (defScope s_l_pool) .none kV_l_pool dc_l_pool pm_l_pool an_l_pool cd_l_pool ct_l_pool), sl_l_pool⟩)
    (e_l_pool : PySem.W.codeIn K cd_l_pool "_law_pool" = true)
    (k_l_pool : PySem.W.keepIn K (.ref f_l_pool) = true)
    (a_l_same : PySem.W.nsIn K mainGlobals "_law_same" = some (some (.ref f_l_same)))
    (l_l_same : K.lookup f_l_same = some ⟨oc_l_same, od_l_same, .func (PySem.W.fnOf "_law_same" "_law_same" (defArgs s_l_same) (defBody s_l_same) (defScope s_l_same) .none kV_l_same dc_l_same pm_l_same an_l_same cd_l_same ct_l_same), sl_l_same⟩)
    (e_l_same : PySem.W.codeIn K cd_l_same "_law_same" = true)
    (k_l_same : PySem.W.keepIn K (.ref f_l_same) = true)
    (a_f_matches : PySem.W.nsIn K mainGlobals "_matches" = some (some (.ref f_f_matches)))
    (l_f_matches : K.lookup f_f_matches = some ⟨oc_f_matches, od_f_matches, .func (PySem.W.fnOf "_matches" "_matches" (defArgs s_f_matches) (defBody s_f_matches) (defScope s_f_matches) .none kV_f_matches dc_f_matches pm_f_matches an_f_matches cd_f_matches ct_f_matches), sl_f_matches⟩)
    (e_f_matches : PySem.W.codeIn K cd_f_matches "_matches" = true)
    (k_f_matches : PySem.W.keepIn K (.ref f_f_matches) = true)
    (a_Habit_call : PySem.W.findIn K (.ref C_Habit) "__call__" = some (some (.ref f_Habit_call)))
    (j_Habit_call : PySem.W.isFn K (.ref f_Habit_call) = true)
    (fi_Habit_call : PySem.W.fnIn K f_Habit_call = true)
    (l_Habit_call : K.lookup f_Habit_call = some ⟨oc_Habit_call, od_Habit_call, .func (PySem.W.fnOf "__call__" "Habit.__call__" (defArgs s_Habit_call) (defBody s_Habit_call) (defScope s_Habit_call) .none kV_Habit_call dc_Habit_call pm_Habit_call an_Habit_call cd_Habit_call ct_Habit_call), sl_Habit_call⟩)
    (e_Habit_call : PySem.W.codeIn K cd_Habit_call "Habit.__call__" = true)
    (k_Habit_call : PySem.W.keepIn K (.ref f_Habit_call) = true)
    (a_Lacquer_contains : PySem.W.findIn K (.ref C_Lacquer) "__contains__" = some (some (.ref f_Lacquer_contains)))
    (j_Lacquer_contains : PySem.W.isFn K (.ref f_Lacquer_contains) = true)
    (l_Lacquer_contains : K.lookup f_Lacquer_contains = some ⟨oc_Lacquer_contains, od_Lacquer_contains, .func (PySem.W.fnOf "__contains__" "Lacquer.__contains__" (defArgs s_Lacquer_contains) (defBody s_Lacquer_contains) (defScope s_Lacquer_contains) .none kV_Lacquer_contains dc_Lacquer_contains pm_Lacquer_contains an_Lacquer_contains cd_Lacquer_contains ct_Lacquer_contains), sl_Lacquer_contains⟩)
    (e_Lacquer_contains : PySem.W.codeIn K cd_Lacquer_contains "Lacquer.__contains__" = true)
    (k_Lacquer_contains : PySem.W.keepIn K (.ref f_Lacquer_contains) = true)
    (a_f_lays : PySem.W.nsIn K mainGlobals "lays" = some (some (.ref f_f_lays)))
    (l_f_lays : K.lookup f_f_lays = some ⟨oc_f_lays, od_f_lays, .func (PySem.W.fnOf "lays" "lays" (defArgs s_f_lays) (defBody s_f_lays) (defScope s_f_lays) .none kV_f_lays dc_f_lays pm_f_lays an_f_lays cd_f_lays ct_f_lays), sl_f_lays⟩)
    (e_f_lays : PySem.W.codeIn K cd_f_lays "lays" = true)
    (k_f_lays : PySem.W.keepIn K (.ref f_f_lays) = true)
    (a_f_played : PySem.W.nsIn K mainGlobals "played" = some (some (.ref f_f_played)))
    (l_f_played : K.lookup f_f_played = some ⟨oc_f_played, od_f_played, .func (PySem.W.fnOf "played" "played" (defArgs s_f_played) (defBody s_f_played) (defScope s_f_played) .none kV_f_played dc_f_played pm_f_played an_f_played cd_f_played ct_f_played), sl_f_played⟩)
    (e_f_played : PySem.W.codeIn K cd_f_played "played" = true)
    (k_f_played : PySem.W.keepIn K (.ref f_f_played) = true)
    (a_f_trap_weather : PySem.W.nsIn K mainGlobals "trap_weather" = some (some (.ref f_f_trap_weather)))
    (l_f_trap_weather : K.lookup f_f_trap_weather = some ⟨oc_f_trap_weather, od_f_trap_weather, .func (PySem.W.fnOf "trap_weather" "trap_weather" (defArgs s_f_trap_weather) (defBody s_f_trap_weather) (defScope s_f_trap_weather) .none kV_f_trap_weather dc_f_trap_weather pm_f_trap_weather an_f_trap_weather cd_f_trap_weather ct_f_trap_weather), sl_f_trap_weather⟩)
    (e_f_trap_weather : PySem.W.codeIn K cd_f_trap_weather "trap_weather" = true)
    (k_f_trap_weather : PySem.W.keepIn K (.ref f_f_trap_weather) = true)
    (a_l_answer : PySem.W.nsIn K mainGlobals "_law_answer" = some (some (.ref f_l_answer)))
    (l_l_answer : K.lookup f_l_answer = some ⟨oc_l_answer, od_l_answer, .func (PySem.W.fnOf "_law_answer" "_law_answer" (defArgs s_l_answer) (defBody s_l_answer) (defScope s_l_answer) .none kV_l_answer dc_l_answer pm_l_answer an_l_answer cd_l_answer ct_l_answer), sl_l_answer⟩)
    (e_l_answer : PySem.W.codeIn K cd_l_answer "_law_answer" = true)
    (k_l_answer : PySem.W.keepIn K (.ref f_l_answer) = true)
    (a_l_play : PySem.W.nsIn K mainGlobals "_law_play" = some (some (.ref f_l_play)))
    (l_l_play : K.lookup f_l_play = some ⟨oc_l_play, od_l_play, .func (PySem.W.fnOf "_law_play" "_law_play" (defArgs s_l_play) (defBody s_l_play) (defScope s_l_play) .none kV_l_play dc_l_play pm_l_play an_l_play cd_l_play ct_l_play), sl_l_play⟩)
    (e_l_play : PySem.W.codeIn K cd_l_play "_law_play" = true)
    (k_l_play : PySem.W.keepIn K (.ref f_l_play) = true)
    (a_l_steps : PySem.W.nsIn K mainGlobals "_law_steps" = some (some (.ref f_l_steps)))
    (l_l_steps : K.lookup f_l_steps = some ⟨oc_l_steps, od_l_steps, .func (PySem.W.fnOf "_law_steps" "_law_steps" (defArgs s_l_steps) (defBody s_l_steps) (defScope s_l_steps) .none kV_l_steps dc_l_steps pm_l_steps an_l_steps cd_l_steps ct_l_steps), sl_l_steps⟩)
    (e_l_steps : PySem.W.codeIn K cd_l_steps "_law_steps" = true)
    (k_l_steps : PySem.W.keepIn K (.ref f_l_steps) = true)
    (a_l_longest : PySem.W.nsIn K mainGlobals "_law_longest" = some (some (.ref f_l_longest)))
    (l_l_longest : K.lookup f_l_longest = some ⟨oc_l_longest, od_l_longest, .func (PySem.W.fnOf "_law_longest" "_law_longest" (defArgs s_l_longest) (defBody s_l_longest) (defScope s_l_longest) .none kV_l_longest dc_l_longest pm_l_longest an_l_longest cd_l_longest ct_l_longest), sl_l_longest⟩)
    (e_l_longest : PySem.W.codeIn K cd_l_longest "_law_longest" = true)
    (k_l_longest : PySem.W.keepIn K (.ref f_l_longest) = true)
    (a_l_breach : PySem.W.nsIn K mainGlobals "_law_breach" = some (some (.ref f_l_breach)))
    (l_l_breach : K.lookup f_l_breach = some ⟨oc_l_breach, od_l_breach, .func (PySem.W.fnOf "_law_breach" "_law_breach" (defArgs s_l_breach) (defBody s_l_breach) (defScope s_l_breach) .none kV_l_breach dc_l_breach pm_l_breach an_l_breach cd_l_breach ct_l_breach), sl_l_breach⟩)
    (e_l_breach : PySem.W.codeIn K cd_l_breach "_law_breach" = true)
    (k_l_breach : PySem.W.keepIn K (.ref f_l_breach) = true)
    (a_l_text : PySem.W.nsIn K mainGlobals "_law_text" = some (some (.ref f_l_text)))
    (l_l_text : K.lookup f_l_text = some ⟨oc_l_text, od_l_text, .func (PySem.W.fnOf "_law_text" "_law_text" (defArgs s_l_text) (defBody s_l_text) (defScope s_l_text) .none kV_l_text dc_l_text pm_l_text an_l_text cd_l_text ct_l_text), sl_l_text⟩)
    (e_l_text : PySem.W.codeIn K cd_l_text "_law_text" = true)
    (k_l_text : PySem.W.keepIn K (.ref f_l_text) = true)
    (a_l_trapped : PySem.W.nsIn K mainGlobals "_law_trapped" = some (some (.ref f_l_trapped)))
    (l_l_trapped : K.lookup f_l_trapped = some ⟨oc_l_trapped, od_l_trapped, .func (PySem.W.fnOf "_law_trapped" "_law_trapped" (defArgs s_l_trapped) (defBody s_l_trapped) (defScope s_l_trapped) .none kV_l_trapped dc_l_trapped pm_l_trapped an_l_trapped cd_l_trapped ct_l_trapped), sl_l_trapped⟩)
    (e_l_trapped : PySem.W.codeIn K cd_l_trapped "_law_trapped" = true)
    (k_l_trapped : PySem.W.keepIn K (.ref f_l_trapped) = true)
    (a_l_triple : PySem.W.nsIn K mainGlobals "_law_triple" = some (some (.ref f_l_triple)))
    (l_l_triple : K.lookup f_l_triple = some ⟨oc_l_triple, od_l_triple, .func (PySem.W.fnOf "_law_triple" "_law_triple" (defArgs s_l_triple) (defBody s_l_triple) (defScope s_l_triple) .none kV_l_triple dc_l_triple pm_l_triple an_l_triple cd_l_triple ct_l_triple), sl_l_triple⟩)
    (e_l_triple : PySem.W.codeIn K cd_l_triple "_law_triple" = true)
    (k_l_triple : PySem.W.keepIn K (.ref f_l_triple) = true)
    (a_l_unsound : PySem.W.nsIn K mainGlobals "_law_unsound" = some (some (.ref f_l_unsound)))
    (l_l_unsound : K.lookup f_l_unsound = some ⟨oc_l_unsound, od_l_unsound, .func (PySem.W.fnOf "_law_unsound" "_law_unsound" (defArgs s_l_unsound) (defBody s_l_unsound) (defScope s_l_unsound) .none kV_l_unsound dc_l_unsound pm_l_unsound an_l_unsound cd_l_unsound ct_l_unsound), sl_l_unsound⟩)
    (e_l_unsound : PySem.W.codeIn K cd_l_unsound "_law_unsound" = true)
    (k_l_unsound : PySem.W.keepIn K (.ref f_l_unsound) = true)
    (a_l_law : PySem.W.nsIn K mainGlobals "law" = some (some (.ref f_l_law)))
    (l_l_law : K.lookup f_l_law = some ⟨oc_l_law, od_l_law, .func (PySem.W.fnOf "law" "law" (defArgs s_l_law) (defBody s_l_law) (defScope s_l_law) .none kV_l_law dc_l_law pm_l_law an_l_law cd_l_law ct_l_law), sl_l_law⟩)
    (e_l_law : PySem.W.codeIn K cd_l_law "law" = true)
    (k_l_law : PySem.W.keepIn K (.ref f_l_law) = true) :
    ∃ fd : FuncData, (∀ (s : Shared) (v : Value), BindsTo s fd ⟨[v], []⟩ [("script", v)]) ∧ ∀ base : Heap, K.In base → base.Ns mainGlobals mg → FnOk l.prog w K mg base CX0 11 fa fd ["script"] (spLaw K) := by
  have e := hfa.symm.trans (PySem.W.mg_of X G a_l_law)
  cases e
  have T_BadHabit : S_BadHabit K mg ((adOf C_BadHabit C_BadKind C_BadLacquer C_BadNumber C_Climate C_DampError C_Habit C_Lacquer C_Strange C_TooLarge C_Unsound) .BadHabit) := ⟨PySem.W.mg_of X G a_BadHabit, c_BadHabit_x, c_BadHabit_kp, c_BadHabit_b, c_BadHabit_t, c_BadHabit_i, c_BadHabit_s, c_BadHabit_hg, c_BadHabit_hk, c_BadHabit_hd, c_BadHabit_ha, c_BadHabit_hn, c_BadHabit_ht, c_BadHabit_hm⟩
  have T_BadKind : S_BadKind K mg ((adOf C_BadHabit C_BadKind C_BadLacquer C_BadNumber C_Climate C_DampError C_Habit C_Lacquer C_Strange C_TooLarge C_Unsound) .BadKind) := ⟨PySem.W.mg_of X G a_BadKind, c_BadKind_x, c_BadKind_kp, c_BadKind_b, c_BadKind_t, c_BadKind_i, c_BadKind_s, c_BadKind_hg, c_BadKind_hk, c_BadKind_hd, c_BadKind_ha, c_BadKind_hn, c_BadKind_ht, c_BadKind_hm⟩
  have T_BadLacquer : S_BadLacquer K mg ((adOf C_BadHabit C_BadKind C_BadLacquer C_BadNumber C_Climate C_DampError C_Habit C_Lacquer C_Strange C_TooLarge C_Unsound) .BadLacquer) := ⟨PySem.W.mg_of X G a_BadLacquer, c_BadLacquer_x, c_BadLacquer_kp, c_BadLacquer_b, c_BadLacquer_t, c_BadLacquer_i, c_BadLacquer_s, c_BadLacquer_hg, c_BadLacquer_hk, c_BadLacquer_hd, c_BadLacquer_ha, c_BadLacquer_hn, c_BadLacquer_ht, c_BadLacquer_hm⟩
  have T_BadNumber : S_BadNumber K mg ((adOf C_BadHabit C_BadKind C_BadLacquer C_BadNumber C_Climate C_DampError C_Habit C_Lacquer C_Strange C_TooLarge C_Unsound) .BadNumber) := ⟨PySem.W.mg_of X G a_BadNumber, c_BadNumber_x, c_BadNumber_kp, c_BadNumber_b, c_BadNumber_t, c_BadNumber_i, c_BadNumber_s, c_BadNumber_hg, c_BadNumber_hk, c_BadNumber_hd, c_BadNumber_ha, c_BadNumber_hn, c_BadNumber_ht, c_BadNumber_hm⟩
  have T_Climate : S_Climate K mg ((adOf C_BadHabit C_BadKind C_BadLacquer C_BadNumber C_Climate C_DampError C_Habit C_Lacquer C_Strange C_TooLarge C_Unsound) .Climate) := ⟨c_Climate_pg, c_Climate_hd, c_Climate_po, c_Climate_sa, PySem.W.mg_of X G a_Climate, c_Climate_sf, c_Climate_nf, c_Climate_ha, c_Climate_hn, c_Climate_ht, c_Climate_hm, c_Climate_kp, c_Climate_mkk, c_Climate_n_kinds⟩
  have T_DampError : S_DampError K mg ((adOf C_BadHabit C_BadKind C_BadLacquer C_BadNumber C_Climate C_DampError C_Habit C_Lacquer C_Strange C_TooLarge C_Unsound) .DampError) := ⟨PySem.W.mg_of X G a_DampError, c_DampError_x, c_DampError_kp, c_DampError_b, c_DampError_t, c_DampError_i, c_DampError_s, c_DampError_hg, c_DampError_hk, c_DampError_hd, c_DampError_ha, c_DampError_hn, c_DampError_ht, c_DampError_hm⟩
  have T_Habit : S_Habit K mg ((adOf C_BadHabit C_BadKind C_BadLacquer C_BadNumber C_Climate C_DampError C_Habit C_Lacquer C_Strange C_TooLarge C_Unsound) .Habit) := ⟨c_Habit_pg, c_Habit_hd, c_Habit_po, c_Habit_sa, PySem.W.mg_of X G a_Habit, c_Habit_sf, c_Habit_nf, c_Habit_ha, c_Habit_hn, c_Habit_ht, c_Habit_hm, c_Habit_kp, c_Habit_mkk, c_Habit_rd, c_Habit_ga, c_Habit_n_rows, c_Habit_n_sight⟩
  have T_Lacquer : S_Lacquer K mg ((adOf C_BadHabit C_BadKind C_BadLacquer C_BadNumber C_Climate C_DampError C_Habit C_Lacquer C_Strange C_TooLarge C_Unsound) .Lacquer) := ⟨c_Lacquer_pg, c_Lacquer_hd, c_Lacquer_po, c_Lacquer_sa, PySem.W.mg_of X G a_Lacquer, c_Lacquer_sf, c_Lacquer_nf, c_Lacquer_ha, c_Lacquer_hn, c_Lacquer_ht, c_Lacquer_hm, c_Lacquer_kp, c_Lacquer_mkk, ⟨_, c_Lacquer_v_MOST, ⟨_, rfl⟩⟩, c_Lacquer_rd, c_Lacquer_ga, c_Lacquer_n_a, c_Lacquer_n_b⟩
  have T_Strange : S_Strange K mg ((adOf C_BadHabit C_BadKind C_BadLacquer C_BadNumber C_Climate C_DampError C_Habit C_Lacquer C_Strange C_TooLarge C_Unsound) .Strange) := ⟨PySem.W.mg_of X G a_Strange, c_Strange_kp, c_Strange_b, c_Strange_t, c_Strange_i, c_Strange_s, c_Strange_hg, c_Strange_hk, c_Strange_hd, c_Strange_ha, c_Strange_hn, c_Strange_ht, c_Strange_hm⟩
  have T_TooLarge : S_TooLarge K mg ((adOf C_BadHabit C_BadKind C_BadLacquer C_BadNumber C_Climate C_DampError C_Habit C_Lacquer C_Strange C_TooLarge C_Unsound) .TooLarge) := ⟨PySem.W.mg_of X G a_TooLarge, c_TooLarge_x, c_TooLarge_kp, c_TooLarge_b, c_TooLarge_t, c_TooLarge_i, c_TooLarge_s, c_TooLarge_hg, c_TooLarge_hk, c_TooLarge_hd, c_TooLarge_ha, c_TooLarge_hn, c_TooLarge_ht, c_TooLarge_hm⟩
  have T_Unsound : S_Unsound K mg ((adOf C_BadHabit C_BadKind C_BadLacquer C_BadNumber C_Climate C_DampError C_Habit C_Lacquer C_Strange C_TooLarge C_Unsound) .Unsound) := ⟨PySem.W.mg_of X G a_Unsound, c_Unsound_kp, c_Unsound_b, c_Unsound_t, c_Unsound_i, c_Unsound_s, c_Unsound_hg, c_Unsound_hk, c_Unsound_hd, c_Unsound_ha, c_Unsound_hn, c_Unsound_ht, c_Unsound_hm, c_Unsound_sa, c_Unsound_n_kind, ⟨_, _, _, _, _, _, _, _, _, _, _, _, _, _, _, c_Unsound_ox1, c_Unsound_ox2⟩⟩
  have z_ValueError : mg "ValueError" = none := PySem.W.mg_none_of X G y_ValueError
  have z_all : mg "all" = none := PySem.W.mg_none_of X G y_all
  have z_bool : mg "bool" = none := PySem.W.mg_none_of X G y_bool
  have z_int : mg "int" = none := PySem.W.mg_none_of X G y_int
  have z_isinstance : mg "isinstance" = none := PySem.W.mg_none_of X G y_isinstance
  have z_iter : mg "iter" = none := PySem.W.mg_none_of X G y_iter
  have z_len : mg "len" = none := PySem.W.mg_none_of X G y_len
  have z_list : mg "list" = none := PySem.W.mg_none_of X G y_list
  have z_max : mg "max" = none := PySem.W.mg_none_of X G y_max
  have z_min : mg "min" = none := PySem.W.mg_none_of X G y_min
  have z_range : mg "range" = none := PySem.W.mg_none_of X G y_range
  have z_sorted : mg "sorted" = none := PySem.W.mg_none_of X G y_sorted
  have z_str : mg "str" = none := PySem.W.mg_none_of X G y_str
  have z_super : mg "super" = none := PySem.W.mg_none_of X G y_super
  have z_tuple : mg "tuple" = none := PySem.W.mg_none_of X G y_tuple
  have z_zip : mg "zip" = none := PySem.W.mg_none_of X G y_zip
  have g_ANY : ∃ u, mg "ANY" = some u ∧ RelV (.str "?") u := ⟨_, PySem.W.mg_of X G y_ANY, ⟨_, rfl⟩⟩
  have g_CLOSE : ∃ u, mg "CLOSE" = some u ∧ RelV (.str "close") u := ⟨_, PySem.W.mg_of X G y_CLOSE, ⟨_, rfl⟩⟩
  have g_DAMP : ∃ u, mg "DAMP" = some u ∧ RelV (.str "#") u := ⟨_, PySem.W.mg_of X G y_DAMP, ⟨_, rfl⟩⟩
  have g_DRY : ∃ u, mg "DRY" = some u ∧ RelV (.str ".") u := ⟨_, PySem.W.mg_of X G y_DRY, ⟨_, rfl⟩⟩
  have g_LONG : ∃ u, mg "LONG" = some u ∧ RelV (.str "long") u := ⟨_, PySem.W.mg_of X G y_LONG, ⟨_, rfl⟩⟩
  have g_MARKS : ∃ a, mg "MARKS" = some (.ref a) ∧ KTup K a [.str ".", .str "#", .str "?"] := ⟨_, PySem.W.mg_of X G y_MARKS, _, _, _, yl_MARKS, rfl, rfl, by rw [sizeLine_eq]; show 3 ≤ 16777216; decide, (.cons ⟨_, rfl⟩ (.cons ⟨_, rfl⟩ (.cons ⟨_, rfl⟩ .nil)))⟩
  have g_MOST_AGE : ∃ u, mg "MOST_AGE" = some u ∧ RelV (.int 8) u := ⟨_, PySem.W.mg_of X G y_MOST_AGE, ⟨_, rfl⟩⟩
  have g_MOST_DRY : ∃ u, mg "MOST_DRY" = some u ∧ RelV (.int 8) u := ⟨_, PySem.W.mg_of X G y_MOST_DRY, ⟨_, rfl⟩⟩
  have g_MOST_KINDS : ∃ u, mg "MOST_KINDS" = some u ∧ RelV (.int 300) u := ⟨_, PySem.W.mg_of X G y_MOST_KINDS, ⟨_, rfl⟩⟩
  have g_MOST_ROWS : ∃ u, mg "MOST_ROWS" = some u ∧ RelV (.int 40) u := ⟨_, PySem.W.mg_of X G y_MOST_ROWS, ⟨_, rfl⟩⟩
  have g_MOST_RUN : ∃ u, mg "MOST_RUN" = some u ∧ RelV (.int 120) u := ⟨_, PySem.W.mg_of X G y_MOST_RUN, ⟨_, rfl⟩⟩
  have g_MOST_SIGHT : ∃ u, mg "MOST_SIGHT" = some u ∧ RelV (.int 5) u := ⟨_, PySem.W.mg_of X G y_MOST_SIGHT, ⟨_, rfl⟩⟩
  have g_MOST_SPELL : ∃ u, mg "MOST_SPELL" = some u ∧ RelV (.int 16) u := ⟨_, PySem.W.mg_of X G y_MOST_SPELL, ⟨_, rfl⟩⟩
  refine ⟨PySem.W.fnOf "law" "law" (defArgs s_l_law) (defBody s_l_law) (defScope s_l_law) .none kV_l_law dc_l_law pm_l_law an_l_law cd_l_law ct_l_law, fun s v => .of_eq rfl, fun base _ _ => ?_⟩
  have F_f_check_kind := fun_mk (st := s_f_check_kind) l_f_check_kind e_f_check_kind k_f_check_kind
  have b_f_check_kind := F_f_check_kind.binds (ps := ["w", "g"]) fun _ _ _ _ _ _ us hl => match us, hl with | [_, _], _ => rfl
  have m_f_check_kind := PySem.W.mg_of X G a_f_check_kind
  have O_f_check_kind : FnOk l.prog w K mg base (L2.CX l.prog w) 1 f_f_check_kind _ ["w", "g"] (spP K (adOf C_BadHabit C_BadKind C_BadLacquer C_BadNumber C_Climate C_DampError C_Habit C_Lacquer C_Strange C_TooLarge C_Unsound) 2 G_f_check_kind) := ok_f_check_kind (ad := (adOf C_BadHabit C_BadKind C_BadLacquer C_BadNumber C_Climate C_DampError C_Habit C_Lacquer C_Strange C_TooLarge C_Unsound)) F_f_check_kind (T_BadKind := T_BadKind) (g_MOST_RUN := g_MOST_RUN) (g_MOST_SPELL := g_MOST_SPELL)
  have F_f_check_kinds := fun_mk (st := s_f_check_kinds) l_f_check_kinds e_f_check_kinds k_f_check_kinds
  have b_f_check_kinds := F_f_check_kinds.binds (ps := ["kinds"]) fun _ _ _ _ _ _ us hl => match us, hl with | [_], _ => rfl
  have m_f_check_kinds := PySem.W.mg_of X G a_f_check_kinds
  have O_f_check_kinds : FnOk l.prog w K mg base (L2.CX l.prog w) 2 f_f_check_kinds _ ["kinds"] (spP K (adOf C_BadHabit C_BadKind C_BadLacquer C_BadNumber C_Climate C_DampError C_Habit C_Lacquer C_Strange C_TooLarge C_Unsound) 1 G_f_check_kinds) := ok_f_check_kinds (ad := (adOf C_BadHabit C_BadKind C_BadLacquer C_BadNumber C_Climate C_DampError C_Habit C_Lacquer C_Strange C_TooLarge C_Unsound)) F_f_check_kinds (T_BadKind := T_BadKind) (z_len := z_len) (g_MOST_KINDS := g_MOST_KINDS) (O_f_check_kind := O_f_check_kind) (m_f_check_kind := m_f_check_kind) (k_f_check_kind := k_f_check_kind) (b_f_check_kind := b_f_check_kind)
  have F_f_plain_list := fun_mk (st := s_f_plain_list) l_f_plain_list e_f_plain_list k_f_plain_list
  have b_f_plain_list := F_f_plain_list.binds (ps := ["kinds"]) fun _ _ _ _ _ _ us hl => match us, hl with | [_], _ => rfl
  have m_f_plain_list := PySem.W.mg_of X G a_f_plain_list
  have O_f_plain_list : FnOk l.prog w K mg base CX0 1 f_f_plain_list _ ["kinds"] (spP K (adOf C_BadHabit C_BadKind C_BadLacquer C_BadNumber C_Climate C_DampError C_Habit C_Lacquer C_Strange C_TooLarge C_Unsound) 1 G_f_plain_list) := ok_f_plain_list (ad := (adOf C_BadHabit C_BadKind C_BadLacquer C_BadNumber C_Climate C_DampError C_Habit C_Lacquer C_Strange C_TooLarge C_Unsound)) F_f_plain_list (z_min := z_min) (z_sorted := z_sorted)
  have F_Climate_init := fun_mk (st := s_Climate_init) l_Climate_init e_Climate_init k_Climate_init
  have b_Climate_init := F_Climate_init.binds (ps := ["self", "kinds"]) fun _ _ _ _ _ _ us hl => match us, hl with | [_, _], _ => rfl
  have I_Climate : Mk K ((adOf C_BadHabit C_BadKind C_BadLacquer C_BadNumber C_Climate C_DampError C_Habit C_Lacquer C_Strange C_TooLarge C_Unsound) .Climate) f_Climate_init := ⟨c_Climate_mkk, a_Climate_init, j_Climate_init, c_Climate_kp⟩
  have O_Climate_init : FnOk l.prog w K mg base (L2.CX l.prog w) 3 f_Climate_init _ ["self", "kinds"] (spP K (adOf C_BadHabit C_BadKind C_BadLacquer C_BadNumber C_Climate C_DampError C_Habit C_Lacquer C_Strange C_TooLarge C_Unsound) 2 G_Climate_init) := ok_Climate_init (ad := (adOf C_BadHabit C_BadKind C_BadLacquer C_BadNumber C_Climate C_DampError C_Habit C_Lacquer C_Strange C_TooLarge C_Unsound)) F_Climate_init (T_Climate := T_Climate) (z_tuple := z_tuple) (O_f_check_kinds := O_f_check_kinds) (m_f_check_kinds := m_f_check_kinds) (k_f_check_kinds := k_f_check_kinds) (b_f_check_kinds := b_f_check_kinds) (O_f_plain_list := O_f_plain_list) (m_f_plain_list := m_f_plain_list) (k_f_plain_list := k_f_plain_list) (b_f_plain_list := b_f_plain_list)
  have F_f_is_row := fun_mk (st := s_f_is_row) l_f_is_row e_f_is_row k_f_is_row
  have b_f_is_row := F_f_is_row.binds (ps := ["row", "sight"]) fun _ _ _ _ _ _ us hl => match us, hl with | [_, _], _ => rfl
  have m_f_is_row := PySem.W.mg_of X G a_f_is_row
  have O_f_is_row : FnOk l.prog w K mg base CX0 1 f_f_is_row _ ["row", "sight"] (spP K (adOf C_BadHabit C_BadKind C_BadLacquer C_BadNumber C_Climate C_DampError C_Habit C_Lacquer C_Strange C_TooLarge C_Unsound) 2 G_f_is_row) := ok_f_is_row (ad := (adOf C_BadHabit C_BadKind C_BadLacquer C_BadNumber C_Climate C_DampError C_Habit C_Lacquer C_Strange C_TooLarge C_Unsound)) F_f_is_row (z_all := z_all) (z_len := z_len) (g_MARKS := g_MARKS) (g_MOST_AGE := g_MOST_AGE) (g_MOST_DRY := g_MOST_DRY)
  have F_Habit_init := fun_mk (st := s_Habit_init) l_Habit_init e_Habit_init k_Habit_init
  have b_Habit_init := F_Habit_init.binds (ps := ["self", "sight", "rows"]) fun _ _ _ _ _ _ us hl => match us, hl with | [_, _, _], _ => rfl
  have I_Habit : Mk K ((adOf C_BadHabit C_BadKind C_BadLacquer C_BadNumber C_Climate C_DampError C_Habit C_Lacquer C_Strange C_TooLarge C_Unsound) .Habit) f_Habit_init := ⟨c_Habit_mkk, a_Habit_init, j_Habit_init, c_Habit_kp⟩
  have O_Habit_init : FnOk l.prog w K mg base (L2.CX l.prog w) 2 f_Habit_init _ ["self", "sight", "rows"] (spP K (adOf C_BadHabit C_BadKind C_BadLacquer C_BadNumber C_Climate C_DampError C_Habit C_Lacquer C_Strange C_TooLarge C_Unsound) 3 G_Habit_init) := ok_Habit_init (ad := (adOf C_BadHabit C_BadKind C_BadLacquer C_BadNumber C_Climate C_DampError C_Habit C_Lacquer C_Strange C_TooLarge C_Unsound)) F_Habit_init (T_BadHabit := T_BadHabit) (T_Habit := T_Habit) (z_all := z_all) (z_len := z_len) (z_tuple := z_tuple) (g_MOST_ROWS := g_MOST_ROWS) (g_MOST_SIGHT := g_MOST_SIGHT) (O_f_is_row := O_f_is_row) (m_f_is_row := m_f_is_row) (k_f_is_row := k_f_is_row) (b_f_is_row := b_f_is_row)
  have F_Habit_eager := fun_mk (st := s_Habit_eager) l_Habit_eager e_Habit_eager k_Habit_eager
  have b_Habit_eager := F_Habit_eager.binds (ps := ["sight"]) fun _ _ _ _ _ _ us hl => match us, hl with | [_], _ => rfl
  have SM_Habit_eager : SMet K ((adOf C_BadHabit C_BadKind C_BadLacquer C_BadNumber C_Climate C_DampError C_Habit C_Lacquer C_Strange C_TooLarge C_Unsound) .Habit) (.type "type") "eager" p_Habit_eager f_Habit_eager := ⟨a_Habit_eager, ⟨rest_Habit_eager, pr_Habit_eager⟩⟩
  have O_Habit_eager : FnOk l.prog w K mg base (L2.CX l.prog w) 4 f_Habit_eager _ ["sight"] (spP K (adOf C_BadHabit C_BadKind C_BadLacquer C_BadNumber C_Climate C_DampError C_Habit C_Lacquer C_Strange C_TooLarge C_Unsound) 1 G_Habit_eager) := ok_Habit_eager (ad := (adOf C_BadHabit C_BadKind C_BadLacquer C_BadNumber C_Climate C_DampError C_Habit C_Lacquer C_Strange C_TooLarge C_Unsound)) F_Habit_eager (T_Habit := T_Habit) (O_Habit_init := O_Habit_init) (b_Habit_init := b_Habit_init) (I_Habit := I_Habit)
  have F_Lacquer_init := fun_mk (st := s_Lacquer_init) l_Lacquer_init e_Lacquer_init k_Lacquer_init
  have b_Lacquer_init := F_Lacquer_init.binds (ps := ["self", "a", "b"]) fun _ _ _ _ _ _ us hl => match us, hl with | [_, _, _], _ => rfl
  have I_Lacquer : Mk K ((adOf C_BadHabit C_BadKind C_BadLacquer C_BadNumber C_Climate C_DampError C_Habit C_Lacquer C_Strange C_TooLarge C_Unsound) .Lacquer) f_Lacquer_init := ⟨c_Lacquer_mkk, a_Lacquer_init, j_Lacquer_init, c_Lacquer_kp⟩
  have O_Lacquer_init : FnOk l.prog w K mg base (L2.CX l.prog w) 1 f_Lacquer_init _ ["self", "a", "b"] (spP K (adOf C_BadHabit C_BadKind C_BadLacquer C_BadNumber C_Climate C_DampError C_Habit C_Lacquer C_Strange C_TooLarge C_Unsound) 3 G_Lacquer_init) := ok_Lacquer_init (ad := (adOf C_BadHabit C_BadKind C_BadLacquer C_BadNumber C_Climate C_DampError C_Habit C_Lacquer C_Strange C_TooLarge C_Unsound)) F_Lacquer_init (T_BadLacquer := T_BadLacquer) (T_Lacquer := T_Lacquer)
  have F_Climate_iter := fun_mk (st := s_Climate_iter) l_Climate_iter e_Climate_iter k_Climate_iter
  have b_Climate_iter := F_Climate_iter.binds (ps := ["self"]) fun _ _ _ _ _ _ us hl => match us, hl with | [_], _ => rfl
  have M_Climate_iter : Meth K ((adOf C_BadHabit C_BadKind C_BadLacquer C_BadNumber C_Climate C_DampError C_Habit C_Lacquer C_Strange C_TooLarge C_Unsound) .Climate) "__iter__" f_Climate_iter := ⟨a_Climate_iter, j_Climate_iter, k_Climate_iter⟩
  have O_Climate_iter : OW.FnS l.prog w K mg base 1 f_Climate_iter _ ["self"] (spIt K ((adOf C_BadHabit C_BadKind C_BadLacquer C_BadNumber C_Climate C_DampError C_Habit C_Lacquer C_Strange C_TooLarge C_Unsound) .Climate) "kinds") := ok_Climate_iter (ad := (adOf C_BadHabit C_BadKind C_BadLacquer C_BadNumber C_Climate C_DampError C_Habit C_Lacquer C_Strange C_TooLarge C_Unsound)) F_Climate_iter (T_Climate := T_Climate) (z_iter := z_iter)
  have F_Lacquer_slack := fun_mk (st := s_Lacquer_slack) l_Lacquer_slack e_Lacquer_slack k_Lacquer_slack
  have b_Lacquer_slack := F_Lacquer_slack.binds (ps := ["self"]) fun _ _ _ _ _ _ us hl => match us, hl with | [_], _ => rfl
  have P_Lacquer_slack : PropOf K ((adOf C_BadHabit C_BadKind C_BadLacquer C_BadNumber C_Climate C_DampError C_Habit C_Lacquer C_Strange C_TooLarge C_Unsound) .Lacquer) "slack" p_Lacquer_slack f_Lacquer_slack := ⟨a_Lacquer_slack, pg_Lacquer_slack, pt_Lacquer_slack, ⟨rest_Lacquer_slack, pr_Lacquer_slack⟩⟩
  have O_Lacquer_slack : FnOk l.prog w K mg base CX0 1 f_Lacquer_slack _ ["self"] (spP K (adOf C_BadHabit C_BadKind C_BadLacquer C_BadNumber C_Climate C_DampError C_Habit C_Lacquer C_Strange C_TooLarge C_Unsound) 1 G_Lacquer_slack) := ok_Lacquer_slack (ad := (adOf C_BadHabit C_BadKind C_BadLacquer C_BadNumber C_Climate C_DampError C_Habit C_Lacquer C_Strange C_TooLarge C_Unsound)) F_Lacquer_slack (T_Lacquer := T_Lacquer)
  have F_f_ceil_div := fun_mk (st := s_f_ceil_div) l_f_ceil_div e_f_ceil_div k_f_ceil_div
  have b_f_ceil_div := F_f_ceil_div.binds (ps := ["x", "y"]) fun _ _ _ _ _ _ us hl => match us, hl with | [_, _], _ => rfl
  have m_f_ceil_div := PySem.W.mg_of X G a_f_ceil_div
  have O_f_ceil_div : FnOk l.prog w K mg base CX0 1 f_f_ceil_div _ ["x", "y"] (spP K (adOf C_BadHabit C_BadKind C_BadLacquer C_BadNumber C_Climate C_DampError C_Habit C_Lacquer C_Strange C_TooLarge C_Unsound) 2 G_f_ceil_div) := ok_f_ceil_div (ad := (adOf C_BadHabit C_BadKind C_BadLacquer C_BadNumber C_Climate C_DampError C_Habit C_Lacquer C_Strange C_TooLarge C_Unsound)) F_f_ceil_div 
  have F_Lacquer_spans := fun_mk (st := s_Lacquer_spans) l_Lacquer_spans e_Lacquer_spans k_Lacquer_spans
  have b_Lacquer_spans := F_Lacquer_spans.binds (ps := ["self", "w"]) fun _ _ _ _ _ _ us hl => match us, hl with | [_, _], _ => rfl
  have M_Lacquer_spans : Meth K ((adOf C_BadHabit C_BadKind C_BadLacquer C_BadNumber C_Climate C_DampError C_Habit C_Lacquer C_Strange C_TooLarge C_Unsound) .Lacquer) "spans" f_Lacquer_spans := ⟨a_Lacquer_spans, j_Lacquer_spans, k_Lacquer_spans⟩
  have O_Lacquer_spans : FnOk l.prog w K mg base (L2.CX l.prog w) 3 f_Lacquer_spans _ ["self", "w"] (spP K (adOf C_BadHabit C_BadKind C_BadLacquer C_BadNumber C_Climate C_DampError C_Habit C_Lacquer C_Strange C_TooLarge C_Unsound) 2 G_Lacquer_spans) := ok_Lacquer_spans (ad := (adOf C_BadHabit C_BadKind C_BadLacquer C_BadNumber C_Climate C_DampError C_Habit C_Lacquer C_Strange C_TooLarge C_Unsound)) F_Lacquer_spans (T_BadNumber := T_BadNumber) (T_Lacquer := T_Lacquer) (O_f_ceil_div := O_f_ceil_div) (m_f_ceil_div := m_f_ceil_div) (k_f_ceil_div := k_f_ceil_div) (b_f_ceil_div := b_f_ceil_div) (O_Lacquer_slack := O_Lacquer_slack) (b_Lacquer_slack := b_Lacquer_slack) (P_Lacquer_slack := P_Lacquer_slack)
  have F_Lacquer_lead := fun_mk (st := s_Lacquer_lead) l_Lacquer_lead e_Lacquer_lead k_Lacquer_lead
  have b_Lacquer_lead := F_Lacquer_lead.binds (ps := ["self", "w"]) fun _ _ _ _ _ _ us hl => match us, hl with | [_, _], _ => rfl
  have M_Lacquer_lead : Meth K ((adOf C_BadHabit C_BadKind C_BadLacquer C_BadNumber C_Climate C_DampError C_Habit C_Lacquer C_Strange C_TooLarge C_Unsound) .Lacquer) "lead" f_Lacquer_lead := ⟨a_Lacquer_lead, j_Lacquer_lead, k_Lacquer_lead⟩
  have O_Lacquer_lead : FnOk l.prog w K mg base (L2.CX l.prog w) 4 f_Lacquer_lead _ ["self", "w"] (spP K (adOf C_BadHabit C_BadKind C_BadLacquer C_BadNumber C_Climate C_DampError C_Habit C_Lacquer C_Strange C_TooLarge C_Unsound) 2 G_Lacquer_lead) := ok_Lacquer_lead (ad := (adOf C_BadHabit C_BadKind C_BadLacquer C_BadNumber C_Climate C_DampError C_Habit C_Lacquer C_Strange C_TooLarge C_Unsound)) F_Lacquer_lead (T_BadNumber := T_BadNumber) (T_Lacquer := T_Lacquer) (O_Lacquer_spans := O_Lacquer_spans) (b_Lacquer_spans := b_Lacquer_spans) (M_Lacquer_spans := M_Lacquer_spans)
  have b_Unsound_init : Binds K (PySem.W.ksFn "__init__" "Unsound.__init__" (defArgs s_Unsound_init) (defBody s_Unsound_init) (defScope s_Unsound_init) .none kV_Unsound_init dc_Unsound_init pm_Unsound_init an_Unsound_init (.ref cda_Unsound_init) ct_Unsound_init cc_Unsound_init) [EX.sfS, "kind"] [] := .all fun us hl => match us, hl with | [_, _], _ => rfl
  have IC_Unsound_init : PySem.W.findIn K (.ref ((adOf C_BadHabit C_BadKind C_BadLacquer C_BadNumber C_Climate C_DampError C_Habit C_Lacquer C_Strange C_TooLarge C_Unsound) .Unsound)) "__init__" = some (some (.ref f_Unsound_init)) := a_Unsound_init
  have TI_Unsound_init := j_Unsound_init
  have O_Unsound_init : FnOk l.prog w K mg base CX0 1 f_Unsound_init _ [EX.sfS, "kind"] (EX.spE K ((adOf C_BadHabit C_BadKind C_BadLacquer C_BadNumber C_Climate C_DampError C_Habit C_Lacquer C_Strange C_TooLarge C_Unsound) .Unsound) "kind") := ok_Unsound_init (ad := (adOf C_BadHabit C_BadKind C_BadLacquer C_BadNumber C_Climate C_DampError C_Habit C_Lacquer C_Strange C_TooLarge C_Unsound)) T_Unsound l_Unsound_init e_Unsound_init p1_Unsound_init p2_Unsound_init p3_Unsound_init p4_Unsound_init p5_Unsound_init p6_Unsound_init z_super p7_Unsound_init p8_Unsound_init p9_Unsound_init pa_Unsound_init pb_Unsound_init
  have F_f_fault := fun_mk (st := s_f_fault) l_f_fault e_f_fault k_f_fault
  have b_f_fault := F_f_fault.binds (ps := ["lacquer", "w"]) fun _ _ _ _ _ _ us hl => match us, hl with | [_, _], _ => rfl
  have m_f_fault := PySem.W.mg_of X G a_f_fault
  have O_f_fault : FnOk l.prog w K mg base CX0 1 f_f_fault _ ["lacquer", "w"] (spP K (adOf C_BadHabit C_BadKind C_BadLacquer C_BadNumber C_Climate C_DampError C_Habit C_Lacquer C_Strange C_TooLarge C_Unsound) 2 G_f_fault) := ok_f_fault (ad := (adOf C_BadHabit C_BadKind C_BadLacquer C_BadNumber C_Climate C_DampError C_Habit C_Lacquer C_Strange C_TooLarge C_Unsound)) F_f_fault (T_Lacquer := T_Lacquer) (g_CLOSE := g_CLOSE) (g_LONG := g_LONG)
  have F_f_is_sound_kind := fun_mk (st := s_f_is_sound_kind) l_f_is_sound_kind e_f_is_sound_kind k_f_is_sound_kind
  have b_f_is_sound_kind := F_f_is_sound_kind.binds (ps := ["lacquer", "w", "g"]) fun _ _ _ _ _ _ us hl => match us, hl with | [_, _, _], _ => rfl
  have m_f_is_sound_kind := PySem.W.mg_of X G a_f_is_sound_kind
  have O_f_is_sound_kind : FnOk l.prog w K mg base (L2.CX l.prog w) 5 f_f_is_sound_kind _ ["lacquer", "w", "g"] (spP K (adOf C_BadHabit C_BadKind C_BadLacquer C_BadNumber C_Climate C_DampError C_Habit C_Lacquer C_Strange C_TooLarge C_Unsound) 3 G_f_is_sound_kind) := ok_f_is_sound_kind (ad := (adOf C_BadHabit C_BadKind C_BadLacquer C_BadNumber C_Climate C_DampError C_Habit C_Lacquer C_Strange C_TooLarge C_Unsound)) F_f_is_sound_kind (T_Lacquer := T_Lacquer) (O_Lacquer_lead := O_Lacquer_lead) (b_Lacquer_lead := b_Lacquer_lead) (M_Lacquer_lead := M_Lacquer_lead)
  have F_f_bad_kinds := fun_mk (st := s_f_bad_kinds) l_f_bad_kinds e_f_bad_kinds k_f_bad_kinds
  have b_f_bad_kinds := F_f_bad_kinds.binds (ps := ["lacquer", "climate"]) fun _ _ _ _ _ _ us hl => match us, hl with | [_, _], _ => rfl
  have m_f_bad_kinds := PySem.W.mg_of X G a_f_bad_kinds
  have O_f_bad_kinds : FnOk l.prog w K mg base (L2.CX l.prog w) 6 f_f_bad_kinds _ ["lacquer", "climate"] (spP K (adOf C_BadHabit C_BadKind C_BadLacquer C_BadNumber C_Climate C_DampError C_Habit C_Lacquer C_Strange C_TooLarge C_Unsound) 2 G_f_bad_kinds) := ok_f_bad_kinds (ad := (adOf C_BadHabit C_BadKind C_BadLacquer C_BadNumber C_Climate C_DampError C_Habit C_Lacquer C_Strange C_TooLarge C_Unsound)) F_f_bad_kinds (T_Climate := T_Climate) (O_f_fault := O_f_fault) (m_f_fault := m_f_fault) (k_f_fault := k_f_fault) (b_f_fault := b_f_fault) (O_f_is_sound_kind := O_f_is_sound_kind) (m_f_is_sound_kind := m_f_is_sound_kind) (k_f_is_sound_kind := k_f_is_sound_kind) (b_f_is_sound_kind := b_f_is_sound_kind) (O_Climate_iter := O_Climate_iter) (b_Climate_iter := b_Climate_iter) (M_Climate_iter := M_Climate_iter)
  have F_f_check_sound := fun_mk (st := s_f_check_sound) l_f_check_sound e_f_check_sound k_f_check_sound
  have b_f_check_sound := F_f_check_sound.binds (ps := ["lacquer", "climate"]) fun _ _ _ _ _ _ us hl => match us, hl with | [_, _], _ => rfl
  have m_f_check_sound := PySem.W.mg_of X G a_f_check_sound
  have O_f_check_sound : FnOk l.prog w K mg base (L2.CX l.prog w) 7 f_f_check_sound _ ["lacquer", "climate"] (spP K (adOf C_BadHabit C_BadKind C_BadLacquer C_BadNumber C_Climate C_DampError C_Habit C_Lacquer C_Strange C_TooLarge C_Unsound) 2 G_f_check_sound) := ok_f_check_sound (ad := (adOf C_BadHabit C_BadKind C_BadLacquer C_BadNumber C_Climate C_DampError C_Habit C_Lacquer C_Strange C_TooLarge C_Unsound)) F_f_check_sound (T_Unsound := T_Unsound) (O_f_bad_kinds := O_f_bad_kinds) (m_f_bad_kinds := m_f_bad_kinds) (k_f_bad_kinds := k_f_bad_kinds) (b_f_bad_kinds := b_f_bad_kinds) (O_Unsound_init := O_Unsound_init) (b_Unsound_init := b_Unsound_init) (IC_Unsound_init := IC_Unsound_init) (TI_Unsound_init := TI_Unsound_init)
  have F_f_lead_of := fun_mk (st := s_f_lead_of) l_f_lead_of e_f_lead_of k_f_lead_of
  have b_f_lead_of := F_f_lead_of.binds (ps := ["lacquer", "climate"]) fun _ _ _ _ _ _ us hl => match us, hl with | [_, _], _ => rfl
  have m_f_lead_of := PySem.W.mg_of X G a_f_lead_of
  have O_f_lead_of : FnOk l.prog w K mg base (L2.CX l.prog w) 5 f_f_lead_of _ ["lacquer", "climate"] (spP K (adOf C_BadHabit C_BadKind C_BadLacquer C_BadNumber C_Climate C_DampError C_Habit C_Lacquer C_Strange C_TooLarge C_Unsound) 2 G_f_lead_of) := ok_f_lead_of (ad := (adOf C_BadHabit C_BadKind C_BadLacquer C_BadNumber C_Climate C_DampError C_Habit C_Lacquer C_Strange C_TooLarge C_Unsound)) F_f_lead_of (T_Climate := T_Climate) (T_Lacquer := T_Lacquer) (z_max := z_max) (O_Climate_iter := O_Climate_iter) (b_Climate_iter := b_Climate_iter) (M_Climate_iter := M_Climate_iter) (O_Lacquer_lead := O_Lacquer_lead) (b_Lacquer_lead := b_Lacquer_lead) (M_Lacquer_lead := M_Lacquer_lead)
  have F_f_trap := fun_mk (st := s_f_trap) l_f_trap e_f_trap k_f_trap
  have b_f_trap := F_f_trap.binds (ps := ["lacquer", "climate", "sight"]) fun _ _ _ _ _ _ us hl => match us, hl with | [_, _, _], _ => rfl
  have m_f_trap := PySem.W.mg_of X G a_f_trap
  have O_f_trap : FnOk l.prog w K mg base (L2.CX l.prog w) 8 f_f_trap _ ["lacquer", "climate", "sight"] (spP K (adOf C_BadHabit C_BadKind C_BadLacquer C_BadNumber C_Climate C_DampError C_Habit C_Lacquer C_Strange C_TooLarge C_Unsound) 3 G_f_trap) := ok_f_trap (ad := (adOf C_BadHabit C_BadKind C_BadLacquer C_BadNumber C_Climate C_DampError C_Habit C_Lacquer C_Strange C_TooLarge C_Unsound)) F_f_trap (T_Climate := T_Climate) (T_Lacquer := T_Lacquer) (O_f_check_sound := O_f_check_sound) (m_f_check_sound := m_f_check_sound) (k_f_check_sound := k_f_check_sound) (b_f_check_sound := b_f_check_sound) (O_f_lead_of := O_f_lead_of) (m_f_lead_of := m_f_lead_of) (k_f_lead_of := k_f_lead_of) (b_f_lead_of := b_f_lead_of) (O_Climate_iter := O_Climate_iter) (b_Climate_iter := b_Climate_iter) (M_Climate_iter := M_Climate_iter) (O_Lacquer_lead := O_Lacquer_lead) (b_Lacquer_lead := b_Lacquer_lead) (M_Lacquer_lead := M_Lacquer_lead)
  have F_l_up := fun_mk (st := s_l_up) l_l_up e_l_up k_l_up
  have b_l_up := F_l_up.binds (ps := ["x", "y"]) fun _ _ _ _ _ _ us hl => match us, hl with | [_, _], _ => rfl
  have m_l_up := PySem.W.mg_of X G a_l_up
  have O_l_up : FnOk l.prog w K mg base CX0 1 f_l_up _ ["x", "y"] (spP K (adOf C_BadHabit C_BadKind C_BadLacquer C_BadNumber C_Climate C_DampError C_Habit C_Lacquer C_Strange C_TooLarge C_Unsound) 2 G_l_up) := ok_l_up (ad := (adOf C_BadHabit C_BadKind C_BadLacquer C_BadNumber C_Climate C_DampError C_Habit C_Lacquer C_Strange C_TooLarge C_Unsound)) F_l_up 
  have F_l_lead := fun_mk (st := s_l_lead) l_l_lead e_l_lead k_l_lead
  have b_l_lead := F_l_lead.binds (ps := ["a", "b", "w"]) fun _ _ _ _ _ _ us hl => match us, hl with | [_, _, _], _ => rfl
  have m_l_lead := PySem.W.mg_of X G a_l_lead
  have O_l_lead : FnOk l.prog w K mg base CX0 2 f_l_lead _ ["a", "b", "w"] (spP K (adOf C_BadHabit C_BadKind C_BadLacquer C_BadNumber C_Climate C_DampError C_Habit C_Lacquer C_Strange C_TooLarge C_Unsound) 3 G_l_lead) := ok_l_lead (ad := (adOf C_BadHabit C_BadKind C_BadLacquer C_BadNumber C_Climate C_DampError C_Habit C_Lacquer C_Strange C_TooLarge C_Unsound)) F_l_lead (O_l_up := O_l_up) (m_l_up := m_l_up) (k_l_up := k_l_up) (b_l_up := b_l_up)
  have F_l_take := fun_mk (st := s_l_take) l_l_take e_l_take k_l_take
  have b_l_take := F_l_take.binds (ps := ["pool", "size"]) fun _ _ _ _ _ _ us hl => match us, hl with | [_, _], _ => rfl
  have m_l_take := PySem.W.mg_of X G a_l_take
  have O_l_take : FnOk l.prog w K mg base CX0 1 f_l_take _ ["pool", "size"] (spP K (adOf C_BadHabit C_BadKind C_BadLacquer C_BadNumber C_Climate C_DampError C_Habit C_Lacquer C_Strange C_TooLarge C_Unsound) 2 G_l_take) := ok_l_take (ad := (adOf C_BadHabit C_BadKind C_BadLacquer C_BadNumber C_Climate C_DampError C_Habit C_Lacquer C_Strange C_TooLarge C_Unsound)) F_l_take (z_int := z_int)
  have F_l_bad := fun_mk (st := s_l_bad) l_l_bad e_l_bad k_l_bad
  have b_l_bad := F_l_bad.binds (ps := ["pool", "ab", "need"]) fun _ _ _ _ _ _ us hl => match us, hl with | [_, _, _], _ => rfl
  have m_l_bad := PySem.W.mg_of X G a_l_bad
  have O_l_bad : FnOk l.prog w K mg base CX0 3 f_l_bad _ ["pool", "ab", "need"] (spP K (adOf C_BadHabit C_BadKind C_BadLacquer C_BadNumber C_Climate C_DampError C_Habit C_Lacquer C_Strange C_TooLarge C_Unsound) 3 G_l_bad) := ok_l_bad (ad := (adOf C_BadHabit C_BadKind C_BadLacquer C_BadNumber C_Climate C_DampError C_Habit C_Lacquer C_Strange C_TooLarge C_Unsound)) F_l_bad (z_min := z_min) (O_l_lead := O_l_lead) (m_l_lead := m_l_lead) (k_l_lead := k_l_lead) (b_l_lead := b_l_lead) (O_l_take := O_l_take) (m_l_take := m_l_take) (k_l_take := k_l_take) (b_l_take := b_l_take)
  have F_l_head := fun_mk (st := s_l_head) l_l_head e_l_head k_l_head
  have b_l_head := F_l_head.binds (ps := ["a", "b", "kinds"]) fun _ _ _ _ _ _ us hl => match us, hl with | [_, _, _], _ => rfl
  have m_l_head := PySem.W.mg_of X G a_l_head
  have O_l_head : FnOk l.prog w K mg base CX0 3 f_l_head _ ["a", "b", "kinds"] (spP K (adOf C_BadHabit C_BadKind C_BadLacquer C_BadNumber C_Climate C_DampError C_Habit C_Lacquer C_Strange C_TooLarge C_Unsound) 3 G_l_head) := ok_l_head (ad := (adOf C_BadHabit C_BadKind C_BadLacquer C_BadNumber C_Climate C_DampError C_Habit C_Lacquer C_Strange C_TooLarge C_Unsound)) F_l_head (z_max := z_max) (O_l_lead := O_l_lead) (m_l_lead := m_l_lead) (k_l_lead := k_l_lead) (b_l_lead := b_l_lead)
  have F_l_rows := fun_mk (st := s_l_rows) l_l_rows e_l_rows k_l_rows
  have b_l_rows := F_l_rows.binds (ps := ["pool", "sight"]) fun _ _ _ _ _ _ us hl => match us, hl with | [_, _], _ => rfl
  have m_l_rows := PySem.W.mg_of X G a_l_rows
  have O_l_rows : FnOk l.prog w K mg base CX0 2 f_l_rows _ ["pool", "sight"] (spP K (adOf C_BadHabit C_BadKind C_BadLacquer C_BadNumber C_Climate C_DampError C_Habit C_Lacquer C_Strange C_TooLarge C_Unsound) 2 G_l_rows) := ok_l_rows (ad := (adOf C_BadHabit C_BadKind C_BadLacquer C_BadNumber C_Climate C_DampError C_Habit C_Lacquer C_Strange C_TooLarge C_Unsound)) F_l_rows (z_range := z_range) (O_l_take := O_l_take) (m_l_take := m_l_take) (k_l_take := k_l_take) (b_l_take := b_l_take)
  have F_l_sound_kinds := fun_mk (st := s_l_sound_kinds) l_l_sound_kinds e_l_sound_kinds k_l_sound_kinds
  have b_l_sound_kinds := F_l_sound_kinds.binds (ps := ["pool", "ab", "most", "peak", "need"]) fun _ _ _ _ _ _ us hl => match us, hl with | [_, _, _, _, _], _ => rfl
  have m_l_sound_kinds := PySem.W.mg_of X G a_l_sound_kinds
  have O_l_sound_kinds : FnOk l.prog w K mg base CX0 3 f_l_sound_kinds _ ["pool", "ab", "most", "peak", "need"] (spP K (adOf C_BadHabit C_BadKind C_BadLacquer C_BadNumber C_Climate C_DampError C_Habit C_Lacquer C_Strange C_TooLarge C_Unsound) 5 G_l_sound_kinds) := ok_l_sound_kinds (ad := (adOf C_BadHabit C_BadKind C_BadLacquer C_BadNumber C_Climate C_DampError C_Habit C_Lacquer C_Strange C_TooLarge C_Unsound)) F_l_sound_kinds (z_min := z_min) (z_range := z_range) (O_l_lead := O_l_lead) (m_l_lead := m_l_lead) (k_l_lead := k_l_lead) (b_l_lead := b_l_lead) (O_l_take := O_l_take) (m_l_take := m_l_take) (k_l_take := k_l_take) (b_l_take := b_l_take)
  have F_l_steep := fun_mk (st := s_l_steep) l_l_steep e_l_steep k_l_steep
  have b_l_steep := F_l_steep.binds (ps := ["pool", "ab", "peak", "need"]) fun _ _ _ _ _ _ us hl => match us, hl with | [_, _, _, _], _ => rfl
  have m_l_steep := PySem.W.mg_of X G a_l_steep
  have O_l_steep : FnOk l.prog w K mg base CX0 3 f_l_steep _ ["pool", "ab", "peak", "need"] (spP K (adOf C_BadHabit C_BadKind C_BadLacquer C_BadNumber C_Climate C_DampError C_Habit C_Lacquer C_Strange C_TooLarge C_Unsound) 4 G_l_steep) := ok_l_steep (ad := (adOf C_BadHabit C_BadKind C_BadLacquer C_BadNumber C_Climate C_DampError C_Habit C_Lacquer C_Strange C_TooLarge C_Unsound)) F_l_steep (z_min := z_min) (O_l_lead := O_l_lead) (m_l_lead := m_l_lead) (k_l_lead := k_l_lead) (b_l_lead := b_l_lead) (O_l_take := O_l_take) (m_l_take := m_l_take) (k_l_take := k_l_take) (b_l_take := b_l_take)
  have F_l_case := fun_mk (st := s_l_case) l_l_case e_l_case k_l_case
  have b_l_case := F_l_case.binds (ps := ["pool"]) fun _ _ _ _ _ _ us hl => match us, hl with | [_], _ => rfl
  have m_l_case := PySem.W.mg_of X G a_l_case
  have O_l_case : FnOk l.prog w K mg base CX0 4 f_l_case _ ["pool"] (spP K (adOf C_BadHabit C_BadKind C_BadLacquer C_BadNumber C_Climate C_DampError C_Habit C_Lacquer C_Strange C_TooLarge C_Unsound) 1 G_l_case) := ok_l_case (ad := (adOf C_BadHabit C_BadKind C_BadLacquer C_BadNumber C_Climate C_DampError C_Habit C_Lacquer C_Strange C_TooLarge C_Unsound)) F_l_case (z_int := z_int) (z_len := z_len) (z_max := z_max) (z_min := z_min) (O_l_bad := O_l_bad) (m_l_bad := m_l_bad) (k_l_bad := k_l_bad) (b_l_bad := b_l_bad) (O_l_head := O_l_head) (m_l_head := m_l_head) (k_l_head := k_l_head) (b_l_head := b_l_head) (O_l_rows := O_l_rows) (m_l_rows := m_l_rows) (k_l_rows := k_l_rows) (b_l_rows := b_l_rows) (O_l_sound_kinds := O_l_sound_kinds) (m_l_sound_kinds := m_l_sound_kinds) (k_l_sound_kinds := k_l_sound_kinds) (b_l_sound_kinds := b_l_sound_kinds) (O_l_steep := O_l_steep) (m_l_steep := m_l_steep) (k_l_steep := k_l_steep) (b_l_steep := b_l_steep) (O_l_take := O_l_take) (m_l_take := m_l_take) (k_l_take := k_l_take) (b_l_take := b_l_take)
  have F_l_cell := fun_mk (st := s_l_cell) l_l_cell e_l_cell k_l_cell
  have b_l_cell := F_l_cell.binds (ps := ["script", "k"]) fun _ _ _ _ _ _ us hl => match us, hl with | [_, _], _ => rfl
  have m_l_cell := PySem.W.mg_of X G a_l_cell
  have O_l_cell : FnOk l.prog w K mg base CX0 1 f_l_cell _ ["script", "k"] (spP K (adOf C_BadHabit C_BadKind C_BadLacquer C_BadNumber C_Climate C_DampError C_Habit C_Lacquer C_Strange C_TooLarge C_Unsound) 2 G_l_cell) := ok_l_cell (ad := (adOf C_BadHabit C_BadKind C_BadLacquer C_BadNumber C_Climate C_DampError C_Habit C_Lacquer C_Strange C_TooLarge C_Unsound)) F_l_cell (z_len := z_len)
  have F_l_fault := fun_mk (st := s_l_fault) l_l_fault e_l_fault k_l_fault
  have b_l_fault := F_l_fault.binds (ps := ["a", "b", "kind"]) fun _ _ _ _ _ _ us hl => match us, hl with | [_, _, _], _ => rfl
  have m_l_fault := PySem.W.mg_of X G a_l_fault
  have O_l_fault : FnOk l.prog w K mg base CX0 3 f_l_fault _ ["a", "b", "kind"] (spP K (adOf C_BadHabit C_BadKind C_BadLacquer C_BadNumber C_Climate C_DampError C_Habit C_Lacquer C_Strange C_TooLarge C_Unsound) 3 G_l_fault) := ok_l_fault (ad := (adOf C_BadHabit C_BadKind C_BadLacquer C_BadNumber C_Climate C_DampError C_Habit C_Lacquer C_Strange C_TooLarge C_Unsound)) F_l_fault (O_l_lead := O_l_lead) (m_l_lead := m_l_lead) (k_l_lead := k_l_lead) (b_l_lead := b_l_lead)
  have F_l_least_run := fun_mk (st := s_l_least_run) l_l_least_run e_l_least_run k_l_least_run
  have b_l_least_run := F_l_least_run.binds (ps := ["kinds", "w"]) fun _ _ _ _ _ _ us hl => match us, hl with | [_, _], _ => rfl
  have m_l_least_run := PySem.W.mg_of X G a_l_least_run
  have O_l_least_run : FnOk l.prog w K mg base CX0 1 f_l_least_run _ ["kinds", "w"] (spP K (adOf C_BadHabit C_BadKind C_BadLacquer C_BadNumber C_Climate C_DampError C_Habit C_Lacquer C_Strange C_TooLarge C_Unsound) 2 G_l_least_run) := ok_l_least_run (ad := (adOf C_BadHabit C_BadKind C_BadLacquer C_BadNumber C_Climate C_DampError C_Habit C_Lacquer C_Strange C_TooLarge C_Unsound)) F_l_least_run 
  have F_l_plain := fun_mk (st := s_l_plain) l_l_plain e_l_plain k_l_plain
  have b_l_plain := F_l_plain.binds (ps := ["kinds"]) fun _ _ _ _ _ _ us hl => match us, hl with | [_], _ => rfl
  have m_l_plain := PySem.W.mg_of X G a_l_plain
  have O_l_plain : FnOk l.prog w K mg base CX0 2 f_l_plain _ ["kinds"] (spP K (adOf C_BadHabit C_BadKind C_BadLacquer C_BadNumber C_Climate C_DampError C_Habit C_Lacquer C_Strange C_TooLarge C_Unsound) 1 G_l_plain) := ok_l_plain (ad := (adOf C_BadHabit C_BadKind C_BadLacquer C_BadNumber C_Climate C_DampError C_Habit C_Lacquer C_Strange C_TooLarge C_Unsound)) F_l_plain (z_range := z_range) (O_l_least_run := O_l_least_run) (m_l_least_run := m_l_least_run) (k_l_least_run := k_l_least_run) (b_l_least_run := b_l_least_run)
  have F_l_pool := fun_mk (st := s_l_pool) l_l_pool e_l_pool k_l_pool
  have b_l_pool := F_l_pool.binds (ps := ["cell"]) fun _ _ _ _ _ _ us hl => match us, hl with | [_], _ => rfl
  have m_l_pool := PySem.W.mg_of X G a_l_pool
  have O_l_pool : FnOk l.prog w K mg base CX0 1 f_l_pool _ ["cell"] (spP K (adOf C_BadHabit C_BadKind C_BadLacquer C_BadNumber C_Climate C_DampError C_Habit C_Lacquer C_Strange C_TooLarge C_Unsound) 1 G_l_pool) := ok_l_pool (ad := (adOf C_BadHabit C_BadKind C_BadLacquer C_BadNumber C_Climate C_DampError C_Habit C_Lacquer C_Strange C_TooLarge C_Unsound)) F_l_pool (z_int := z_int)
  have F_l_same := fun_mk (st := s_l_same) l_l_same e_l_same k_l_same
  have b_l_same := F_l_same.binds (ps := ["actual", "due"]) fun _ _ _ _ _ _ us hl => match us, hl with | [_, _], _ => rfl
  have m_l_same := PySem.W.mg_of X G a_l_same
  have O_l_same : FnOk l.prog w K mg base CX0 5 f_l_same _ ["actual", "due"] (spP K (adOf C_BadHabit C_BadKind C_BadLacquer C_BadNumber C_Climate C_DampError C_Habit C_Lacquer C_Strange C_TooLarge C_Unsound) 2 G_l_same) := ok_l_same (ad := (adOf C_BadHabit C_BadKind C_BadLacquer C_BadNumber C_Climate C_DampError C_Habit C_Lacquer C_Strange C_TooLarge C_Unsound)) F_l_same (z_bool := z_bool) (z_int := z_int) (z_isinstance := z_isinstance) (z_len := z_len) (z_list := z_list) (z_range := z_range) (z_str := z_str) (z_tuple := z_tuple) (kit_NoneType_bool := kit_NoneType_bool) (kit_NoneType_int := kit_NoneType_int) (kit_NoneType_list := kit_NoneType_list) (kit_NoneType_str := kit_NoneType_str) (kit_NoneType_tuple := kit_NoneType_tuple) (kit_int_bool := kit_int_bool) (kit_int_int := kit_int_int) (kit_int_list := kit_int_list) (kit_int_str := kit_int_str) (kit_int_tuple := kit_int_tuple) (kit_str_bool := kit_str_bool) (kit_str_int := kit_str_int) (kit_str_list := kit_str_list) (kit_str_str := kit_str_str) (kit_str_tuple := kit_str_tuple) (kit_tuple_bool := kit_tuple_bool) (kit_tuple_int := kit_tuple_int) (kit_tuple_list := kit_tuple_list) (kit_tuple_str := kit_tuple_str) (kit_tuple_tuple := kit_tuple_tuple) (m_l_same := m_l_same) (k_l_same := k_l_same) (b_l_same := b_l_same) 4
  have F_f_matches := fun_mk (st := s_f_matches) l_f_matches e_f_matches k_f_matches
  have b_f_matches := F_f_matches.binds (ps := ["text", "signs"]) fun _ _ _ _ _ _ us hl => match us, hl with | [_, _], _ => rfl
  have m_f_matches := PySem.W.mg_of X G a_f_matches
  have O_f_matches : FnOk l.prog w K mg base CX0 1 f_f_matches _ ["text", "signs"] (spP K (adOf C_BadHabit C_BadKind C_BadLacquer C_BadNumber C_Climate C_DampError C_Habit C_Lacquer C_Strange C_TooLarge C_Unsound) 2 G_f_matches) := ok_f_matches (ad := (adOf C_BadHabit C_BadKind C_BadLacquer C_BadNumber C_Climate C_DampError C_Habit C_Lacquer C_Strange C_TooLarge C_Unsound)) F_f_matches (z_all := z_all) (z_zip := z_zip) (g_ANY := g_ANY)
  have F_Habit_call := fun_mk (st := s_Habit_call) l_Habit_call e_Habit_call k_Habit_call
  have b_Habit_call := F_Habit_call.binds (ps := ["self", "age", "dry", "ahead"]) fun _ _ _ _ _ _ us hl => match us, hl with | [_, _, _, _], _ => rfl
  have M_Habit_call : Meth K ((adOf C_BadHabit C_BadKind C_BadLacquer C_BadNumber C_Climate C_DampError C_Habit C_Lacquer C_Strange C_TooLarge C_Unsound) .Habit) "__call__" f_Habit_call := ⟨a_Habit_call, j_Habit_call, k_Habit_call⟩
  have O_Habit_call : FnOk l.prog w K mg base CX0 2 f_Habit_call _ ["self", "age", "dry", "ahead"] (spP K (adOf C_BadHabit C_BadKind C_BadLacquer C_BadNumber C_Climate C_DampError C_Habit C_Lacquer C_Strange C_TooLarge C_Unsound) 4 G_Habit_call) := ok_Habit_call (ad := (adOf C_BadHabit C_BadKind C_BadLacquer C_BadNumber C_Climate C_DampError C_Habit C_Lacquer C_Strange C_TooLarge C_Unsound)) F_Habit_call (T_Habit := T_Habit) (O_f_matches := O_f_matches) (m_f_matches := m_f_matches) (k_f_matches := k_f_matches) (b_f_matches := b_f_matches)
  have F_Lacquer_contains := fun_mk (st := s_Lacquer_contains) l_Lacquer_contains e_Lacquer_contains k_Lacquer_contains
  have b_Lacquer_contains := F_Lacquer_contains.binds (ps := ["self", "step"]) fun _ _ _ _ _ _ us hl => match us, hl with | [_, _], _ => rfl
  have M_Lacquer_contains : Meth K ((adOf C_BadHabit C_BadKind C_BadLacquer C_BadNumber C_Climate C_DampError C_Habit C_Lacquer C_Strange C_TooLarge C_Unsound) .Lacquer) "__contains__" f_Lacquer_contains := ⟨a_Lacquer_contains, j_Lacquer_contains, k_Lacquer_contains⟩
  have O_Lacquer_contains : FnOk l.prog w K mg base CX0 1 f_Lacquer_contains _ ["self", "step"] (spP K (adOf C_BadHabit C_BadKind C_BadLacquer C_BadNumber C_Climate C_DampError C_Habit C_Lacquer C_Strange C_TooLarge C_Unsound) 2 G_Lacquer_contains) := ok_Lacquer_contains (ad := (adOf C_BadHabit C_BadKind C_BadLacquer C_BadNumber C_Climate C_DampError C_Habit C_Lacquer C_Strange C_TooLarge C_Unsound)) F_Lacquer_contains (T_Lacquer := T_Lacquer)
  have F_f_lays := fun_mk (st := s_f_lays) l_f_lays e_f_lays k_f_lays
  have b_f_lays := F_f_lays.binds (ps := ["habit", "steps", "age", "dry", "ahead"]) fun _ _ _ _ _ _ us hl => match us, hl with | [_, _, _, _, _], _ => rfl
  have m_f_lays := PySem.W.mg_of X G a_f_lays
  have O_f_lays : FnOk l.prog w K mg base CX0 3 f_f_lays _ ["habit", "steps", "age", "dry", "ahead"] (spP K (adOf C_BadHabit C_BadKind C_BadLacquer C_BadNumber C_Climate C_DampError C_Habit C_Lacquer C_Strange C_TooLarge C_Unsound) 5 G_f_lays) := ok_f_lays (ad := (adOf C_BadHabit C_BadKind C_BadLacquer C_BadNumber C_Climate C_DampError C_Habit C_Lacquer C_Strange C_TooLarge C_Unsound)) F_f_lays (T_Habit := T_Habit) (T_Lacquer := T_Lacquer) (O_Habit_call := O_Habit_call) (b_Habit_call := b_Habit_call) (M_Habit_call := M_Habit_call) (fi_Habit_call := fi_Habit_call) (O_Lacquer_contains := O_Lacquer_contains) (b_Lacquer_contains := b_Lacquer_contains) (M_Lacquer_contains := M_Lacquer_contains)
  have F_f_played := fun_mk (st := s_f_played) l_f_played e_f_played k_f_played
  have b_f_played := F_f_played.binds (ps := ["habit", "steps", "farthest", "signs"]) fun _ _ _ _ _ _ us hl => match us, hl with | [_, _, _, _], _ => rfl
  have m_f_played := PySem.W.mg_of X G a_f_played
  have O_f_played : FnOk l.prog w K mg base CX0 4 f_f_played _ ["habit", "steps", "farthest", "signs"] (spP K (adOf C_BadHabit C_BadKind C_BadLacquer C_BadNumber C_Climate C_DampError C_Habit C_Lacquer C_Strange C_TooLarge C_Unsound) 4 G_f_played) := ok_f_played (ad := (adOf C_BadHabit C_BadKind C_BadLacquer C_BadNumber C_Climate C_DampError C_Habit C_Lacquer C_Strange C_TooLarge C_Unsound)) F_f_played (T_Habit := T_Habit) (z_len := z_len) (z_range := z_range) (g_DRY := g_DRY) (O_f_lays := O_f_lays) (m_f_lays := m_f_lays) (k_f_lays := k_f_lays) (b_f_lays := b_f_lays)
  have F_f_trap_weather := fun_mk (st := s_f_trap_weather) l_f_trap_weather e_f_trap_weather k_f_trap_weather
  have b_f_trap_weather := F_f_trap_weather.binds (ps := ["habit", "lacquer", "climate"]) fun _ _ _ _ _ _ us hl => match us, hl with | [_, _, _], _ => rfl
  have m_f_trap_weather := PySem.W.mg_of X G a_f_trap_weather
  have O_f_trap_weather : FnOk l.prog w K mg base (L2.CX l.prog w) 9 f_f_trap_weather _ ["habit", "lacquer", "climate"] (spP K (adOf C_BadHabit C_BadKind C_BadLacquer C_BadNumber C_Climate C_DampError C_Habit C_Lacquer C_Strange C_TooLarge C_Unsound) 3 G_f_trap_weather) := ok_f_trap_weather (ad := (adOf C_BadHabit C_BadKind C_BadLacquer C_BadNumber C_Climate C_DampError C_Habit C_Lacquer C_Strange C_TooLarge C_Unsound)) F_f_trap_weather (T_Habit := T_Habit) (T_Lacquer := T_Lacquer) (g_DAMP := g_DAMP) (g_DRY := g_DRY) (O_f_played := O_f_played) (m_f_played := m_f_played) (k_f_played := k_f_played) (b_f_played := b_f_played) (O_f_trap := O_f_trap) (m_f_trap := m_f_trap) (k_f_trap := k_f_trap) (b_f_trap := b_f_trap)
  have F_l_answer := fun_mk (st := s_l_answer) l_l_answer e_l_answer k_l_answer
  have b_l_answer := F_l_answer.binds (ps := ["rows", "age", "dry", "ahead"]) fun _ _ _ _ _ _ us hl => match us, hl with | [_, _, _, _], _ => rfl
  have m_l_answer := PySem.W.mg_of X G a_l_answer
  have O_l_answer : FnOk l.prog w K mg base CX0 1 f_l_answer _ ["rows", "age", "dry", "ahead"] (spP K (adOf C_BadHabit C_BadKind C_BadLacquer C_BadNumber C_Climate C_DampError C_Habit C_Lacquer C_Strange C_TooLarge C_Unsound) 4 G_l_answer) := ok_l_answer (ad := (adOf C_BadHabit C_BadKind C_BadLacquer C_BadNumber C_Climate C_DampError C_Habit C_Lacquer C_Strange C_TooLarge C_Unsound)) F_l_answer (z_len := z_len) (z_range := z_range)
  have F_l_play := fun_mk (st := s_l_play) l_l_play e_l_play k_l_play
  have b_l_play := F_l_play.binds (ps := ["sight", "rows", "steps", "signs"]) fun _ _ _ _ _ _ us hl => match us, hl with | [_, _, _, _], _ => rfl
  have m_l_play := PySem.W.mg_of X G a_l_play
  have O_l_play : FnOk l.prog w K mg base CX0 2 f_l_play _ ["sight", "rows", "steps", "signs"] (spP K (adOf C_BadHabit C_BadKind C_BadLacquer C_BadNumber C_Climate C_DampError C_Habit C_Lacquer C_Strange C_TooLarge C_Unsound) 4 G_l_play) := ok_l_play (ad := (adOf C_BadHabit C_BadKind C_BadLacquer C_BadNumber C_Climate C_DampError C_Habit C_Lacquer C_Strange C_TooLarge C_Unsound)) F_l_play (z_len := z_len) (z_range := z_range) (O_l_answer := O_l_answer) (m_l_answer := m_l_answer) (k_l_answer := k_l_answer) (b_l_answer := b_l_answer)
  have F_l_steps := fun_mk (st := s_l_steps) l_l_steps e_l_steps k_l_steps
  have b_l_steps := F_l_steps.binds (ps := ["ab"]) fun _ _ _ _ _ _ us hl => match us, hl with | [_], _ => rfl
  have m_l_steps := PySem.W.mg_of X G a_l_steps
  have O_l_steps : FnOk l.prog w K mg base CX0 1 f_l_steps _ ["ab"] (spP K (adOf C_BadHabit C_BadKind C_BadLacquer C_BadNumber C_Climate C_DampError C_Habit C_Lacquer C_Strange C_TooLarge C_Unsound) 1 G_l_steps) := ok_l_steps (ad := (adOf C_BadHabit C_BadKind C_BadLacquer C_BadNumber C_Climate C_DampError C_Habit C_Lacquer C_Strange C_TooLarge C_Unsound)) F_l_steps (z_range := z_range)
  have F_l_longest := fun_mk (st := s_l_longest) l_l_longest e_l_longest k_l_longest
  have b_l_longest := F_l_longest.binds (ps := ["kinds", "stretch"]) fun _ _ _ _ _ _ us hl => match us, hl with | [_, _], _ => rfl
  have m_l_longest := PySem.W.mg_of X G a_l_longest
  have O_l_longest : FnOk l.prog w K mg base CX0 1 f_l_longest _ ["kinds", "stretch"] (spP K (adOf C_BadHabit C_BadKind C_BadLacquer C_BadNumber C_Climate C_DampError C_Habit C_Lacquer C_Strange C_TooLarge C_Unsound) 2 G_l_longest) := ok_l_longest (ad := (adOf C_BadHabit C_BadKind C_BadLacquer C_BadNumber C_Climate C_DampError C_Habit C_Lacquer C_Strange C_TooLarge C_Unsound)) F_l_longest 
  have F_l_breach := fun_mk (st := s_l_breach) l_l_breach e_l_breach k_l_breach
  have b_l_breach := F_l_breach.binds (ps := ["kinds", "signs"]) fun _ _ _ _ _ _ us hl => match us, hl with | [_, _], _ => rfl
  have m_l_breach := PySem.W.mg_of X G a_l_breach
  have O_l_breach : FnOk l.prog w K mg base CX0 2 f_l_breach _ ["kinds", "signs"] (spP K (adOf C_BadHabit C_BadKind C_BadLacquer C_BadNumber C_Climate C_DampError C_Habit C_Lacquer C_Strange C_TooLarge C_Unsound) 2 G_l_breach) := ok_l_breach (ad := (adOf C_BadHabit C_BadKind C_BadLacquer C_BadNumber C_Climate C_DampError C_Habit C_Lacquer C_Strange C_TooLarge C_Unsound)) F_l_breach (z_len := z_len) (z_range := z_range) (O_l_longest := O_l_longest) (m_l_longest := m_l_longest) (k_l_longest := k_l_longest) (b_l_longest := b_l_longest)
  have F_l_text := fun_mk (st := s_l_text) l_l_text e_l_text k_l_text
  have b_l_text := F_l_text.binds (ps := ["ab", "kinds", "triple", "sight", "rows"]) fun _ _ _ _ _ _ us hl => match us, hl with | [_, _, _, _, _], _ => rfl
  have m_l_text := PySem.W.mg_of X G a_l_text
  have O_l_text : FnOk l.prog w K mg base CX0 3 f_l_text _ ["ab", "kinds", "triple", "sight", "rows"] (spP K (adOf C_BadHabit C_BadKind C_BadLacquer C_BadNumber C_Climate C_DampError C_Habit C_Lacquer C_Strange C_TooLarge C_Unsound) 5 G_l_text) := ok_l_text (ad := (adOf C_BadHabit C_BadKind C_BadLacquer C_BadNumber C_Climate C_DampError C_Habit C_Lacquer C_Strange C_TooLarge C_Unsound)) F_l_text (z_len := z_len) (O_l_breach := O_l_breach) (m_l_breach := m_l_breach) (k_l_breach := k_l_breach) (b_l_breach := b_l_breach) (O_l_play := O_l_play) (m_l_play := m_l_play) (k_l_play := k_l_play) (b_l_play := b_l_play) (O_l_steps := O_l_steps) (m_l_steps := m_l_steps) (k_l_steps := k_l_steps) (b_l_steps := b_l_steps)
  have F_l_trapped := fun_mk (st := s_l_trapped) l_l_trapped e_l_trapped k_l_trapped
  have b_l_trapped := F_l_trapped.binds (ps := ["ab", "kinds", "triple", "habit", "climate", "sight", "rows"]) fun _ _ _ _ _ _ us hl => match us, hl with | [_, _, _, _, _, _, _], _ => rfl
  have m_l_trapped := PySem.W.mg_of X G a_l_trapped
  have O_l_trapped : FnOk l.prog w K mg base CX0 10 f_l_trapped _ ["ab", "kinds", "triple", "habit", "climate", "sight", "rows"] (spP K (adOf C_BadHabit C_BadKind C_BadLacquer C_BadNumber C_Climate C_DampError C_Habit C_Lacquer C_Strange C_TooLarge C_Unsound) 7 G_l_trapped) := ok_l_trapped (ad := (adOf C_BadHabit C_BadKind C_BadLacquer C_BadNumber C_Climate C_DampError C_Habit C_Lacquer C_Strange C_TooLarge C_Unsound)) F_l_trapped (T_Lacquer := T_Lacquer) (z_len := z_len) (O_f_trap_weather := O_f_trap_weather) (m_f_trap_weather := m_f_trap_weather) (k_f_trap_weather := k_f_trap_weather) (b_f_trap_weather := b_f_trap_weather) (O_l_play := O_l_play) (m_l_play := m_l_play) (k_l_play := k_l_play) (b_l_play := b_l_play) (O_l_same := O_l_same) (m_l_same := m_l_same) (k_l_same := k_l_same) (b_l_same := b_l_same) (O_l_steps := O_l_steps) (m_l_steps := m_l_steps) (k_l_steps := k_l_steps) (b_l_steps := b_l_steps) (O_l_text := O_l_text) (m_l_text := m_l_text) (k_l_text := k_l_text) (b_l_text := b_l_text) (O_Lacquer_init := O_Lacquer_init) (b_Lacquer_init := b_Lacquer_init) (I_Lacquer := I_Lacquer)
  have F_l_triple := fun_mk (st := s_l_triple) l_l_triple e_l_triple k_l_triple
  have b_l_triple := F_l_triple.binds (ps := ["ab", "plain", "head"]) fun _ _ _ _ _ _ us hl => match us, hl with | [_, _, _], _ => rfl
  have m_l_triple := PySem.W.mg_of X G a_l_triple
  have O_l_triple : FnOk l.prog w K mg base CX0 3 f_l_triple _ ["ab", "plain", "head"] (spP K (adOf C_BadHabit C_BadKind C_BadLacquer C_BadNumber C_Climate C_DampError C_Habit C_Lacquer C_Strange C_TooLarge C_Unsound) 3 G_l_triple) := ok_l_triple (ad := (adOf C_BadHabit C_BadKind C_BadLacquer C_BadNumber C_Climate C_DampError C_Habit C_Lacquer C_Strange C_TooLarge C_Unsound)) F_l_triple (O_l_lead := O_l_lead) (m_l_lead := m_l_lead) (k_l_lead := k_l_lead) (b_l_lead := b_l_lead)
  have F_l_unsound := fun_mk (st := s_l_unsound) l_l_unsound e_l_unsound k_l_unsound
  have b_l_unsound := F_l_unsound.binds (ps := ["lacquer", "climate", "sight", "habit", "kind"]) fun _ _ _ _ _ _ us hl => match us, hl with | [_, _, _, _, _], _ => rfl
  have m_l_unsound := PySem.W.mg_of X G a_l_unsound
  have O_l_unsound : FnOk l.prog w K mg base CX0 10 f_l_unsound _ ["lacquer", "climate", "sight", "habit", "kind"] (spP K (adOf C_BadHabit C_BadKind C_BadLacquer C_BadNumber C_Climate C_DampError C_Habit C_Lacquer C_Strange C_TooLarge C_Unsound) 5 G_l_unsound) := ok_l_unsound (ad := (adOf C_BadHabit C_BadKind C_BadLacquer C_BadNumber C_Climate C_DampError C_Habit C_Lacquer C_Strange C_TooLarge C_Unsound)) F_l_unsound (T_BadHabit := T_BadHabit) (T_BadKind := T_BadKind) (T_BadLacquer := T_BadLacquer) (T_BadNumber := T_BadNumber) (T_DampError := T_DampError) (T_Strange := T_Strange) (T_TooLarge := T_TooLarge) (T_Unsound := T_Unsound) (z_ValueError := z_ValueError) (z_isinstance := z_isinstance) (kit_Unsound_DampError := kit_Unsound_DampError) (kit_Unsound_Strange := kit_Unsound_Strange) (kit_Unsound_TooLarge := kit_Unsound_TooLarge) (kit_Unsound_ValueError := kit_Unsound_ValueError) (xm_BadHabit_Unsound := xm_BadHabit_Unsound) (xm_BadKind_Unsound := xm_BadKind_Unsound) (xm_BadLacquer_Unsound := xm_BadLacquer_Unsound) (xm_BadNumber_Unsound := xm_BadNumber_Unsound) (xm_DampError_Unsound := xm_DampError_Unsound) (xm_Strange_Unsound := xm_Strange_Unsound) (xm_TooLarge_Unsound := xm_TooLarge_Unsound) (xm_Unsound_Unsound := xm_Unsound_Unsound) (O_f_trap := O_f_trap) (m_f_trap := m_f_trap) (k_f_trap := k_f_trap) (b_f_trap := b_f_trap) (O_f_trap_weather := O_f_trap_weather) (m_f_trap_weather := m_f_trap_weather) (k_f_trap_weather := k_f_trap_weather) (b_f_trap_weather := b_f_trap_weather) (O_l_same := O_l_same) (m_l_same := m_l_same) (k_l_same := k_l_same) (b_l_same := b_l_same)
  have F_l_law := fun_mk (st := s_l_law) l_l_law e_l_law k_l_law
  have O_l_law : FnOk l.prog w K mg base CX0 11 fa _ ["script"] (spP K (adOf C_BadHabit C_BadKind C_BadLacquer C_BadNumber C_Climate C_DampError C_Habit C_Lacquer C_Strange C_TooLarge C_Unsound) 1 G_l_law) := ok_l_law (ad := (adOf C_BadHabit C_BadKind C_BadLacquer C_BadNumber C_Climate C_DampError C_Habit C_Lacquer C_Strange C_TooLarge C_Unsound)) F_l_law (T_Climate := T_Climate) (T_Habit := T_Habit) (T_Lacquer := T_Lacquer) (z_len := z_len) (z_list := z_list) (z_max := z_max) (O_f_trap := O_f_trap) (m_f_trap := m_f_trap) (k_f_trap := k_f_trap) (b_f_trap := b_f_trap) (O_l_case := O_l_case) (m_l_case := m_l_case) (k_l_case := k_l_case) (b_l_case := b_l_case) (O_l_cell := O_l_cell) (m_l_cell := m_l_cell) (k_l_cell := k_l_cell) (b_l_cell := b_l_cell) (O_l_fault := O_l_fault) (m_l_fault := m_l_fault) (k_l_fault := k_l_fault) (b_l_fault := b_l_fault) (O_l_head := O_l_head) (m_l_head := m_l_head) (k_l_head := k_l_head) (b_l_head := b_l_head) (O_l_plain := O_l_plain) (m_l_plain := m_l_plain) (k_l_plain := k_l_plain) (b_l_plain := b_l_plain) (O_l_pool := O_l_pool) (m_l_pool := m_l_pool) (k_l_pool := k_l_pool) (b_l_pool := b_l_pool) (O_l_same := O_l_same) (m_l_same := m_l_same) (k_l_same := k_l_same) (b_l_same := b_l_same) (O_l_take := O_l_take) (m_l_take := m_l_take) (k_l_take := k_l_take) (b_l_take := b_l_take) (O_l_trapped := O_l_trapped) (m_l_trapped := m_l_trapped) (k_l_trapped := k_l_trapped) (b_l_trapped := b_l_trapped) (O_l_triple := O_l_triple) (m_l_triple := m_l_triple) (k_l_triple := k_l_triple) (b_l_triple := b_l_triple) (O_l_unsound := O_l_unsound) (m_l_unsound := m_l_unsound) (k_l_unsound := k_l_unsound) (b_l_unsound := b_l_unsound) (O_Climate_init := O_Climate_init) (b_Climate_init := b_Climate_init) (I_Climate := I_Climate) (O_Habit_eager := O_Habit_eager) (b_Habit_eager := b_Habit_eager) (SM_Habit_eager := SM_Habit_eager) (k_Habit_eager := k_Habit_eager) (O_Habit_init := O_Habit_init) (b_Habit_init := b_Habit_init) (I_Habit := I_Habit) (O_Lacquer_init := O_Lacquer_init) (b_Lacquer_init := b_Lacquer_init) (I_Lacquer := I_Lacquer)
  exact O_l_law.imp (spLaw_of law_pure)
end DP
open PySem PySem.W PyProof.Rows
set_option maxHeartbeats 0 in
theorem PySem.Challenge.cw_dampspells_k54_whole_trap_holds : PySem.Challenge.rw_dampspells_k54_whole_trap.Holds := by
  w_on; o_law; k_head; (case hw => w_witness2)
  k_fill
  refine L2.walk_of (l := PySem.Challenge.rw_dampspells_k54_whole_trap) (n := 63) (k := 11) (x := "script") (CX := fun _ => L2.CX0) (sp := fun w => PL.spLaw _) rfl (by decide) rfl ⟨rfl, by decide, by decide⟩ (fun w h Y => PySem.W.kIn_of Y) ?F (fun _ _ a ns hl _ hS => ⟨a, ns, rfl, hS, hl, fun _ => rfl⟩) (fun _ _ _ _ _ h => h)
  case F =>
    intro w mg fa h KX G hmg
    refine' DP.all_mk KX G hmg ?a_BadHabit ?c_BadHabit_x ?c_BadHabit_kp ?c_BadHabit_b ?c_BadHabit_t ?c_BadHabit_i ?c_BadHabit_s ?c_BadHabit_hg ?c_BadHabit_hk ?c_BadHabit_hd ?c_BadHabit_ha ?c_BadHabit_hn ?c_BadHabit_ht ?c_BadHabit_hm ?a_BadKind ?c_BadKind_x ?c_BadKind_kp ?c_BadKind_b ?c_BadKind_t ?c_BadKind_i ?c_BadKind_s ?c_BadKind_hg ?c_BadKind_hk ?c_BadKind_hd ?c_BadKind_ha ?c_BadKind_hn ?c_BadKind_ht ?c_BadKind_hm ?a_BadLacquer ?c_BadLacquer_x ?c_BadLacquer_kp ?c_BadLacquer_b ?c_BadLacquer_t ?c_BadLacquer_i ?c_BadLacquer_s ?c_BadLacquer_hg ?c_BadLacquer_hk ?c_BadLacquer_hd ?c_BadLacquer_ha ?c_BadLacquer_hn ?c_BadLacquer_ht ?c_BadLacquer_hm ?a_BadNumber ?c_BadNumber_x ?c_BadNumber_kp ?c_BadNumber_b ?c_BadNumber_t ?c_BadNumber_i ?c_BadNumber_s ?c_BadNumber_hg ?c_BadNumber_hk ?c_BadNumber_hd ?c_BadNumber_ha ?c_BadNumber_hn ?c_BadNumber_ht ?c_BadNumber_hm ?a_Climate ?c_Climate_pg ?c_Climate_hd ?c_Climate_po ?c_Climate_sa ?c_Climate_sf ?c_Climate_nf ?c_Climate_ha ?c_Climate_hn ?c_Climate_ht ?c_Climate_hm ?c_Climate_kp ?c_Climate_mkk ?c_Climate_n_kinds ?a_DampError ?c_DampError_x ?c_DampError_kp ?c_DampError_b ?c_DampError_t ?c_DampError_i ?c_DampError_s ?c_DampError_hg ?c_DampError_hk ?c_DampError_hd ?c_DampError_ha ?c_DampError_hn ?c_DampError_ht ?c_DampError_hm ?a_Habit ?c_Habit_pg ?c_Habit_hd ?c_Habit_po ?c_Habit_sa ?c_Habit_sf ?c_Habit_nf ?c_Habit_ha ?c_Habit_hn ?c_Habit_ht ?c_Habit_hm ?c_Habit_kp ?c_Habit_mkk ?c_Habit_rd ?c_Habit_ga ?c_Habit_n_rows ?c_Habit_n_sight ?a_Lacquer ?c_Lacquer_pg ?c_Lacquer_hd ?c_Lacquer_po ?c_Lacquer_sa ?c_Lacquer_sf ?c_Lacquer_nf ?c_Lacquer_ha ?c_Lacquer_hn ?c_Lacquer_ht ?c_Lacquer_hm ?c_Lacquer_kp ?c_Lacquer_mkk ?c_Lacquer_v_MOST ?c_Lacquer_rd ?c_Lacquer_ga ?c_Lacquer_n_a ?c_Lacquer_n_b ?a_Strange ?c_Strange_kp ?c_Strange_b ?c_Strange_t ?c_Strange_i ?c_Strange_s ?c_Strange_hg ?c_Strange_hk ?c_Strange_hd ?c_Strange_ha ?c_Strange_hn ?c_Strange_ht ?c_Strange_hm ?a_TooLarge ?c_TooLarge_x ?c_TooLarge_kp ?c_TooLarge_b ?c_TooLarge_t ?c_TooLarge_i ?c_TooLarge_s ?c_TooLarge_hg ?c_TooLarge_hk ?c_TooLarge_hd ?c_TooLarge_ha ?c_TooLarge_hn ?c_TooLarge_ht ?c_TooLarge_hm ?a_Unsound ?c_Unsound_kp ?c_Unsound_b ?c_Unsound_t ?c_Unsound_i ?c_Unsound_s ?c_Unsound_hg ?c_Unsound_hk ?c_Unsound_hd ?c_Unsound_ha ?c_Unsound_hn ?c_Unsound_ht ?c_Unsound_hm ?c_Unsound_sa ?c_Unsound_n_kind ?c_Unsound_ox1 ?c_Unsound_ox2 ?kit_NoneType_bool ?kit_NoneType_int ?kit_NoneType_list ?kit_NoneType_str ?kit_NoneType_tuple ?kit_Unsound_DampError ?kit_Unsound_Strange ?kit_Unsound_TooLarge ?kit_Unsound_ValueError ?kit_int_bool ?kit_int_int ?kit_int_list ?kit_int_str ?kit_int_tuple ?kit_str_bool ?kit_str_int ?kit_str_list ?kit_str_str ?kit_str_tuple ?kit_tuple_bool ?kit_tuple_int ?kit_tuple_list ?kit_tuple_str ?kit_tuple_tuple ?xm_BadHabit_Unsound ?xm_BadKind_Unsound ?xm_BadLacquer_Unsound ?xm_BadNumber_Unsound ?xm_DampError_Unsound ?xm_Strange_Unsound ?xm_TooLarge_Unsound ?xm_Unsound_Unsound ?y_ValueError ?y_all ?y_bool ?y_int ?y_isinstance ?y_iter ?y_len ?y_list ?y_max ?y_min ?y_range ?y_sorted ?y_str ?y_super ?y_tuple ?y_zip ?y_ANY ?y_CLOSE ?y_DAMP ?y_DRY ?y_LONG ?y_MARKS ?yl_MARKS ?y_MOST_AGE ?y_MOST_DRY ?y_MOST_KINDS ?y_MOST_ROWS ?y_MOST_RUN ?y_MOST_SIGHT ?y_MOST_SPELL ?a_f_check_kind ?l_f_check_kind ?e_f_check_kind ?k_f_check_kind ?a_f_check_kinds ?l_f_check_kinds ?e_f_check_kinds ?k_f_check_kinds ?a_f_plain_list ?l_f_plain_list ?e_f_plain_list ?k_f_plain_list ?a_Climate_init ?j_Climate_init ?l_Climate_init ?e_Climate_init ?k_Climate_init ?a_f_is_row ?l_f_is_row ?e_f_is_row ?k_f_is_row ?a_Habit_init ?j_Habit_init ?l_Habit_init ?e_Habit_init ?k_Habit_init ?a_Habit_eager ?pr_Habit_eager ?l_Habit_eager ?e_Habit_eager ?k_Habit_eager ?a_Lacquer_init ?j_Lacquer_init ?l_Lacquer_init ?e_Lacquer_init ?k_Lacquer_init ?a_Climate_iter ?j_Climate_iter ?l_Climate_iter ?e_Climate_iter ?k_Climate_iter ?a_Lacquer_slack ?pg_Lacquer_slack ?pt_Lacquer_slack ?pr_Lacquer_slack ?l_Lacquer_slack ?e_Lacquer_slack ?k_Lacquer_slack ?a_f_ceil_div ?l_f_ceil_div ?e_f_ceil_div ?k_f_ceil_div ?a_Lacquer_spans ?j_Lacquer_spans ?l_Lacquer_spans ?e_Lacquer_spans ?k_Lacquer_spans ?a_Lacquer_lead ?j_Lacquer_lead ?l_Lacquer_lead ?e_Lacquer_lead ?k_Lacquer_lead ?a_Unsound_init ?j_Unsound_init ?l_Unsound_init ?e_Unsound_init ?p1_Unsound_init ?p2_Unsound_init ?p3_Unsound_init ?p4_Unsound_init ?p5_Unsound_init ?p6_Unsound_init ?p7_Unsound_init ?p8_Unsound_init ?p9_Unsound_init ?pa_Unsound_init ?pb_Unsound_init ?a_f_fault ?l_f_fault ?e_f_fault ?k_f_fault ?a_f_is_sound_kind ?l_f_is_sound_kind ?e_f_is_sound_kind ?k_f_is_sound_kind ?a_f_bad_kinds ?l_f_bad_kinds ?e_f_bad_kinds ?k_f_bad_kinds ?a_f_check_sound ?l_f_check_sound ?e_f_check_sound ?k_f_check_sound ?a_f_lead_of ?l_f_lead_of ?e_f_lead_of ?k_f_lead_of ?a_f_trap ?l_f_trap ?e_f_trap ?k_f_trap ?a_l_up ?l_l_up ?e_l_up ?k_l_up ?a_l_lead ?l_l_lead ?e_l_lead ?k_l_lead ?a_l_take ?l_l_take ?e_l_take ?k_l_take ?a_l_bad ?l_l_bad ?e_l_bad ?k_l_bad ?a_l_head ?l_l_head ?e_l_head ?k_l_head ?a_l_rows ?l_l_rows ?e_l_rows ?k_l_rows ?a_l_sound_kinds ?l_l_sound_kinds ?e_l_sound_kinds ?k_l_sound_kinds ?a_l_steep ?l_l_steep ?e_l_steep ?k_l_steep ?a_l_case ?l_l_case ?e_l_case ?k_l_case ?a_l_cell ?l_l_cell ?e_l_cell ?k_l_cell ?a_l_fault ?l_l_fault ?e_l_fault ?k_l_fault ?a_l_least_run ?l_l_least_run ?e_l_least_run ?k_l_least_run ?a_l_plain ?l_l_plain ?e_l_plain ?k_l_plain ?a_l_pool ?l_l_pool ?e_l_pool ?k_l_pool ?a_l_same ?l_l_same ?e_l_same ?k_l_same ?a_f_matches ?l_f_matches ?e_f_matches ?k_f_matches ?a_Habit_call ?j_Habit_call ?fi_Habit_call ?l_Habit_call ?e_Habit_call ?k_Habit_call ?a_Lacquer_contains ?j_Lacquer_contains ?l_Lacquer_contains ?e_Lacquer_contains ?k_Lacquer_contains ?a_f_lays ?l_f_lays ?e_f_lays ?k_f_lays ?a_f_played ?l_f_played ?e_f_played ?k_f_played ?a_f_trap_weather ?l_f_trap_weather ?e_f_trap_weather ?k_f_trap_weather ?a_l_answer ?l_l_answer ?e_l_answer ?k_l_answer ?a_l_play ?l_l_play ?e_l_play ?k_l_play ?a_l_steps ?l_l_steps ?e_l_steps ?k_l_steps ?a_l_longest ?l_l_longest ?e_l_longest ?k_l_longest ?a_l_breach ?l_l_breach ?e_l_breach ?k_l_breach ?a_l_text ?l_l_text ?e_l_text ?k_l_text ?a_l_trapped ?l_l_trapped ?e_l_trapped ?k_l_trapped ?a_l_triple ?l_l_triple ?e_l_triple ?k_l_triple ?a_l_unsound ?l_l_unsound ?e_l_unsound ?k_l_unsound ?a_l_law ?l_l_law ?e_l_law ?k_l_law
    (case a_BadHabit => k_is)
    (case c_BadHabit_x => k_exc)
    (case c_BadHabit_kp => k_is)
    (case c_BadHabit_b => k_is)
    (case c_BadHabit_t => k_is)
    (case c_BadHabit_i => k_is)
    (case c_BadHabit_s => k_is)
    (case c_BadHabit_hg => k_is)
    (case c_BadHabit_hk => k_is)
    (case c_BadHabit_hd => k_is)
    (case c_BadHabit_ha => k_is)
    (case c_BadHabit_hn => k_is)
    (case c_BadHabit_ht => k_is)
    (case c_BadHabit_hm => k_is)
    (case a_BadKind => k_is)
    (case c_BadKind_x => k_exc)
    (case c_BadKind_kp => k_is)
    (case c_BadKind_b => k_is)
    (case c_BadKind_t => k_is)
    (case c_BadKind_i => k_is)
    (case c_BadKind_s => k_is)
    (case c_BadKind_hg => k_is)
    (case c_BadKind_hk => k_is)
    (case c_BadKind_hd => k_is)
    (case c_BadKind_ha => k_is)
    (case c_BadKind_hn => k_is)
    (case c_BadKind_ht => k_is)
    (case c_BadKind_hm => k_is)
    (case a_BadLacquer => k_is)
    (case c_BadLacquer_x => k_exc)
    (case c_BadLacquer_kp => k_is)
    (case c_BadLacquer_b => k_is)
    (case c_BadLacquer_t => k_is)
    (case c_BadLacquer_i => k_is)
    (case c_BadLacquer_s => k_is)
    (case c_BadLacquer_hg => k_is)
    (case c_BadLacquer_hk => k_is)
    (case c_BadLacquer_hd => k_is)
    (case c_BadLacquer_ha => k_is)
    (case c_BadLacquer_hn => k_is)
    (case c_BadLacquer_ht => k_is)
    (case c_BadLacquer_hm => k_is)
    (case a_BadNumber => k_is)
    (case c_BadNumber_x => k_exc)
    (case c_BadNumber_kp => k_is)
    (case c_BadNumber_b => k_is)
    (case c_BadNumber_t => k_is)
    (case c_BadNumber_i => k_is)
    (case c_BadNumber_s => k_is)
    (case c_BadNumber_hg => k_is)
    (case c_BadNumber_hk => k_is)
    (case c_BadNumber_hd => k_is)
    (case c_BadNumber_ha => k_is)
    (case c_BadNumber_hn => k_is)
    (case c_BadNumber_ht => k_is)
    (case c_BadNumber_hm => k_is)
    (case a_Climate => k_is)
    (case c_Climate_pg => k_is)
    (case c_Climate_hd => k_is)
    (case c_Climate_po => k_is)
    (case c_Climate_sa => k_is)
    (case c_Climate_sf => k_is)
    (case c_Climate_nf => k_is)
    (case c_Climate_ha => k_is)
    (case c_Climate_hn => k_is)
    (case c_Climate_ht => k_is)
    (case c_Climate_hm => k_is)
    (case c_Climate_kp => k_is)
    (case c_Climate_mkk => k_is)
    (case c_Climate_n_kinds => k_is)
    (case a_DampError => k_is)
    (case c_DampError_x => k_exc)
    (case c_DampError_kp => k_is)
    (case c_DampError_b => k_is)
    (case c_DampError_t => k_is)
    (case c_DampError_i => k_is)
    (case c_DampError_s => k_is)
    (case c_DampError_hg => k_is)
    (case c_DampError_hk => k_is)
    (case c_DampError_hd => k_is)
    (case c_DampError_ha => k_is)
    (case c_DampError_hn => k_is)
    (case c_DampError_ht => k_is)
    (case c_DampError_hm => k_is)
    (case a_Habit => k_is)
    (case c_Habit_pg => k_is)
    (case c_Habit_hd => k_is)
    (case c_Habit_po => k_is)
    (case c_Habit_sa => k_is)
    (case c_Habit_sf => k_is)
    (case c_Habit_nf => k_is)
    (case c_Habit_ha => k_is)
    (case c_Habit_hn => k_is)
    (case c_Habit_ht => k_is)
    (case c_Habit_hm => k_is)
    (case c_Habit_kp => k_is)
    (case c_Habit_mkk => k_is)
    (case c_Habit_rd => k_is)
    (case c_Habit_ga => k_is)
    (case c_Habit_n_rows => k_is)
    (case c_Habit_n_sight => k_is)
    (case a_Lacquer => k_is)
    (case c_Lacquer_pg => k_is)
    (case c_Lacquer_hd => k_is)
    (case c_Lacquer_po => k_is)
    (case c_Lacquer_sa => k_is)
    (case c_Lacquer_sf => k_is)
    (case c_Lacquer_nf => k_is)
    (case c_Lacquer_ha => k_is)
    (case c_Lacquer_hn => k_is)
    (case c_Lacquer_ht => k_is)
    (case c_Lacquer_hm => k_is)
    (case c_Lacquer_kp => k_is)
    (case c_Lacquer_mkk => k_is)
    (case c_Lacquer_v_MOST => k_is)
    (case c_Lacquer_rd => k_is)
    (case c_Lacquer_ga => k_is)
    (case c_Lacquer_n_a => k_is)
    (case c_Lacquer_n_b => k_is)
    (case a_Strange => k_is)
    (case c_Strange_kp => k_is)
    (case c_Strange_b => k_is)
    (case c_Strange_t => k_is)
    (case c_Strange_i => k_is)
    (case c_Strange_s => k_is)
    (case c_Strange_hg => k_is)
    (case c_Strange_hk => k_is)
    (case c_Strange_hd => k_is)
    (case c_Strange_ha => k_is)
    (case c_Strange_hn => k_is)
    (case c_Strange_ht => k_is)
    (case c_Strange_hm => k_is)
    (case a_TooLarge => k_is)
    (case c_TooLarge_x => k_exc)
    (case c_TooLarge_kp => k_is)
    (case c_TooLarge_b => k_is)
    (case c_TooLarge_t => k_is)
    (case c_TooLarge_i => k_is)
    (case c_TooLarge_s => k_is)
    (case c_TooLarge_hg => k_is)
    (case c_TooLarge_hk => k_is)
    (case c_TooLarge_hd => k_is)
    (case c_TooLarge_ha => k_is)
    (case c_TooLarge_hn => k_is)
    (case c_TooLarge_ht => k_is)
    (case c_TooLarge_hm => k_is)
    (case a_Unsound => k_is)
    (case c_Unsound_kp => k_is)
    (case c_Unsound_b => k_is)
    (case c_Unsound_t => k_is)
    (case c_Unsound_i => k_is)
    (case c_Unsound_s => k_is)
    (case c_Unsound_hg => k_is)
    (case c_Unsound_hk => k_is)
    (case c_Unsound_hd => k_is)
    (case c_Unsound_ha => k_is)
    (case c_Unsound_hn => k_is)
    (case c_Unsound_ht => k_is)
    (case c_Unsound_hm => k_is)
    (case c_Unsound_sa => k_is)
    (case c_Unsound_n_kind => k_is)
    (case c_Unsound_ox1 => k_is)
    (case c_Unsound_ox2 => rfl)
    (case kit_NoneType_bool => first | k_is | decide +kernel | rfl)
    (case kit_NoneType_int => first | k_is | decide +kernel | rfl)
    (case kit_NoneType_list => first | k_is | decide +kernel | rfl)
    (case kit_NoneType_str => first | k_is | decide +kernel | rfl)
    (case kit_NoneType_tuple => first | k_is | decide +kernel | rfl)
    (case kit_Unsound_DampError => first | k_is | decide +kernel | rfl)
    (case kit_Unsound_Strange => first | k_is | decide +kernel | rfl)
    (case kit_Unsound_TooLarge => first | k_is | decide +kernel | rfl)
    (case kit_Unsound_ValueError => first | k_is | decide +kernel | rfl)
    (case kit_int_bool => first | k_is | decide +kernel | rfl)
    (case kit_int_int => first | k_is | decide +kernel | rfl)
    (case kit_int_list => first | k_is | decide +kernel | rfl)
    (case kit_int_str => first | k_is | decide +kernel | rfl)
    (case kit_int_tuple => first | k_is | decide +kernel | rfl)
    (case kit_str_bool => first | k_is | decide +kernel | rfl)
    (case kit_str_int => first | k_is | decide +kernel | rfl)
    (case kit_str_list => first | k_is | decide +kernel | rfl)
    (case kit_str_str => first | k_is | decide +kernel | rfl)
    (case kit_str_tuple => first | k_is | decide +kernel | rfl)
    (case kit_tuple_bool => first | k_is | decide +kernel | rfl)
    (case kit_tuple_int => first | k_is | decide +kernel | rfl)
    (case kit_tuple_list => first | k_is | decide +kernel | rfl)
    (case kit_tuple_str => first | k_is | decide +kernel | rfl)
    (case kit_tuple_tuple => first | k_is | decide +kernel | rfl)
    (case xm_BadHabit_Unsound => first | k_is | decide +kernel | rfl)
    (case xm_BadKind_Unsound => first | k_is | decide +kernel | rfl)
    (case xm_BadLacquer_Unsound => first | k_is | decide +kernel | rfl)
    (case xm_BadNumber_Unsound => first | k_is | decide +kernel | rfl)
    (case xm_DampError_Unsound => first | k_is | decide +kernel | rfl)
    (case xm_Strange_Unsound => first | k_is | decide +kernel | rfl)
    (case xm_TooLarge_Unsound => first | k_is | decide +kernel | rfl)
    (case xm_Unsound_Unsound => first | k_is | decide +kernel | rfl)
    (case y_ValueError => k_is)
    (case y_all => k_is)
    (case y_bool => k_is)
    (case y_int => k_is)
    (case y_isinstance => k_is)
    (case y_iter => k_is)
    (case y_len => k_is)
    (case y_list => k_is)
    (case y_max => k_is)
    (case y_min => k_is)
    (case y_range => k_is)
    (case y_sorted => k_is)
    (case y_str => k_is)
    (case y_super => k_is)
    (case y_tuple => k_is)
    (case y_zip => k_is)
    (case y_ANY => k_is)
    (case y_CLOSE => k_is)
    (case y_DAMP => k_is)
    (case y_DRY => k_is)
    (case y_LONG => k_is)
    (case y_MARKS => k_is)
    (case yl_MARKS => k_is)
    (case y_MOST_AGE => k_is)
    (case y_MOST_DRY => k_is)
    (case y_MOST_KINDS => k_is)
    (case y_MOST_ROWS => k_is)
    (case y_MOST_RUN => k_is)
    (case y_MOST_SIGHT => k_is)
    (case y_MOST_SPELL => k_is)
    (case a_f_check_kind => k_is)
    (case l_f_check_kind => k_is)
    (case e_f_check_kind => k_is)
    (case k_f_check_kind => k_is)
    (case a_f_check_kinds => k_is)
    (case l_f_check_kinds => k_is)
    (case e_f_check_kinds => k_is)
    (case k_f_check_kinds => k_is)
    (case a_f_plain_list => k_is)
    (case l_f_plain_list => k_is)
    (case e_f_plain_list => k_is)
    (case k_f_plain_list => k_is)
    (case a_Climate_init => k_is)
    (case j_Climate_init => k_is)
    (case l_Climate_init => k_is)
    (case e_Climate_init => k_is)
    (case k_Climate_init => k_is)
    (case a_f_is_row => k_is)
    (case l_f_is_row => k_is)
    (case e_f_is_row => k_is)
    (case k_f_is_row => k_is)
    (case a_Habit_init => k_is)
    (case j_Habit_init => k_is)
    (case l_Habit_init => k_is)
    (case e_Habit_init => k_is)
    (case k_Habit_init => k_is)
    (case a_Habit_eager => k_is)
    (case pr_Habit_eager => k_is)
    (case l_Habit_eager => k_is)
    (case e_Habit_eager => k_is)
    (case k_Habit_eager => k_is)
    (case a_Lacquer_init => k_is)
    (case j_Lacquer_init => k_is)
    (case l_Lacquer_init => k_is)
    (case e_Lacquer_init => k_is)
    (case k_Lacquer_init => k_is)
    (case a_Climate_iter => k_is)
    (case j_Climate_iter => k_is)
    (case l_Climate_iter => k_is)
    (case e_Climate_iter => k_is)
    (case k_Climate_iter => k_is)
    (case a_Lacquer_slack => k_is)
    (case pg_Lacquer_slack => k_is)
    (case pt_Lacquer_slack => k_is)
    (case pr_Lacquer_slack => k_is)
    (case l_Lacquer_slack => k_is)
    (case e_Lacquer_slack => k_is)
    (case k_Lacquer_slack => k_is)
    (case a_f_ceil_div => k_is)
    (case l_f_ceil_div => k_is)
    (case e_f_ceil_div => k_is)
    (case k_f_ceil_div => k_is)
    (case a_Lacquer_spans => k_is)
    (case j_Lacquer_spans => k_is)
    (case l_Lacquer_spans => k_is)
    (case e_Lacquer_spans => k_is)
    (case k_Lacquer_spans => k_is)
    (case a_Lacquer_lead => k_is)
    (case j_Lacquer_lead => k_is)
    (case l_Lacquer_lead => k_is)
    (case e_Lacquer_lead => k_is)
    (case k_Lacquer_lead => k_is)
    (case a_Unsound_init => k_is)
    (case j_Unsound_init => k_is)
    (case l_Unsound_init => k_is)
    (case e_Unsound_init => k_is)
    (case p1_Unsound_init => k_is)
    (case p2_Unsound_init => rfl)
    (case p3_Unsound_init => first | rfl | decide +kernel)
    (case p4_Unsound_init => k_is)
    (case p5_Unsound_init => k_is)
    (case p6_Unsound_init => k_is)
    (case p7_Unsound_init => decide +kernel)
    (case p8_Unsound_init => k_is)
    (case p9_Unsound_init => ks_is)
    (case pa_Unsound_init => k_is)
    (case pb_Unsound_init => kx_is)
    (case a_f_fault => k_is)
    (case l_f_fault => k_is)
    (case e_f_fault => k_is)
    (case k_f_fault => k_is)
    (case a_f_is_sound_kind => k_is)
    (case l_f_is_sound_kind => k_is)
    (case e_f_is_sound_kind => k_is)
    (case k_f_is_sound_kind => k_is)
    (case a_f_bad_kinds => k_is)
    (case l_f_bad_kinds => k_is)
    (case e_f_bad_kinds => k_is)
    (case k_f_bad_kinds => k_is)
    (case a_f_check_sound => k_is)
    (case l_f_check_sound => k_is)
    (case e_f_check_sound => k_is)
    (case k_f_check_sound => k_is)
    (case a_f_lead_of => k_is)
    (case l_f_lead_of => k_is)
    (case e_f_lead_of => k_is)
    (case k_f_lead_of => k_is)
    (case a_f_trap => k_is)
    (case l_f_trap => k_is)
    (case e_f_trap => k_is)
    (case k_f_trap => k_is)
    (case a_l_up => k_is)
    (case l_l_up => k_is)
    (case e_l_up => k_is)
    (case k_l_up => k_is)
    (case a_l_lead => k_is)
    (case l_l_lead => k_is)
    (case e_l_lead => k_is)
    (case k_l_lead => k_is)
    (case a_l_take => k_is)
    (case l_l_take => k_is)
    (case e_l_take => k_is)
    (case k_l_take => k_is)
    (case a_l_bad => k_is)
    (case l_l_bad => k_is)
    (case e_l_bad => k_is)
    (case k_l_bad => k_is)
    (case a_l_head => k_is)
    (case l_l_head => k_is)
    (case e_l_head => k_is)
    (case k_l_head => k_is)
    (case a_l_rows => k_is)
    (case l_l_rows => k_is)
    (case e_l_rows => k_is)
    (case k_l_rows => k_is)
    (case a_l_sound_kinds => k_is)
    (case l_l_sound_kinds => k_is)
    (case e_l_sound_kinds => k_is)
    (case k_l_sound_kinds => k_is)
    (case a_l_steep => k_is)
    (case l_l_steep => k_is)
    (case e_l_steep => k_is)
    (case k_l_steep => k_is)
    (case a_l_case => k_is)
    (case l_l_case => k_is)
    (case e_l_case => k_is)
    (case k_l_case => k_is)
    (case a_l_cell => k_is)
    (case l_l_cell => k_is)
    (case e_l_cell => k_is)
    (case k_l_cell => k_is)
    (case a_l_fault => k_is)
    (case l_l_fault => k_is)
    (case e_l_fault => k_is)
    (case k_l_fault => k_is)
    (case a_l_least_run => k_is)
    (case l_l_least_run => k_is)
    (case e_l_least_run => k_is)
    (case k_l_least_run => k_is)
    (case a_l_plain => k_is)
    (case l_l_plain => k_is)
    (case e_l_plain => k_is)
    (case k_l_plain => k_is)
    (case a_l_pool => k_is)
    (case l_l_pool => k_is)
    (case e_l_pool => k_is)
    (case k_l_pool => k_is)
    (case a_l_same => k_is)
    (case l_l_same => k_is)
    (case e_l_same => k_is)
    (case k_l_same => k_is)
    (case a_f_matches => k_is)
    (case l_f_matches => k_is)
    (case e_f_matches => k_is)
    (case k_f_matches => k_is)
    (case a_Habit_call => k_is)
    (case j_Habit_call => k_is)
    (case fi_Habit_call => k_is)
    (case l_Habit_call => k_is)
    (case e_Habit_call => k_is)
    (case k_Habit_call => k_is)
    (case a_Lacquer_contains => k_is)
    (case j_Lacquer_contains => k_is)
    (case l_Lacquer_contains => k_is)
    (case e_Lacquer_contains => k_is)
    (case k_Lacquer_contains => k_is)
    (case a_f_lays => k_is)
    (case l_f_lays => k_is)
    (case e_f_lays => k_is)
    (case k_f_lays => k_is)
    (case a_f_played => k_is)
    (case l_f_played => k_is)
    (case e_f_played => k_is)
    (case k_f_played => k_is)
    (case a_f_trap_weather => k_is)
    (case l_f_trap_weather => k_is)
    (case e_f_trap_weather => k_is)
    (case k_f_trap_weather => k_is)
    (case a_l_answer => k_is)
    (case l_l_answer => k_is)
    (case e_l_answer => k_is)
    (case k_l_answer => k_is)
    (case a_l_play => k_is)
    (case l_l_play => k_is)
    (case e_l_play => k_is)
    (case k_l_play => k_is)
    (case a_l_steps => k_is)
    (case l_l_steps => k_is)
    (case e_l_steps => k_is)
    (case k_l_steps => k_is)
    (case a_l_longest => k_is)
    (case l_l_longest => k_is)
    (case e_l_longest => k_is)
    (case k_l_longest => k_is)
    (case a_l_breach => k_is)
    (case l_l_breach => k_is)
    (case e_l_breach => k_is)
    (case k_l_breach => k_is)
    (case a_l_text => k_is)
    (case l_l_text => k_is)
    (case e_l_text => k_is)
    (case k_l_text => k_is)
    (case a_l_trapped => k_is)
    (case l_l_trapped => k_is)
    (case e_l_trapped => k_is)
    (case k_l_trapped => k_is)
    (case a_l_triple => k_is)
    (case l_l_triple => k_is)
    (case e_l_triple => k_is)
    (case k_l_triple => k_is)
    (case a_l_unsound => k_is)
    (case l_l_unsound => k_is)
    (case e_l_unsound => k_is)
    (case k_l_unsound => k_is)
    (case a_l_law => k_is)
    (case l_l_law => k_is)
    (case e_l_law => k_is)
    (case k_l_law => k_is)
end
