import PyProof.Rows.All
import Wide.All
import OpenK.AllK
import Wide.FinOn
import HandS.ForMost
import HandS.ForExc
import HandS.Wide
import HandS.IsInst
import HandS.Codes
import HandS.Flow
import KE.DataMinMax
import HandS.TupAny
import PyProof.MaxThree
import HandS.Star
import HandS.FStr
import HandS.Property
import HandS.SortKw
import HandS.Defaults
import HandS.ClsMeth
import HandS.SlotsOwn
import HandS.ExcIs
import HandS.Gcd
import HandS.MakeKw
import KE.KOpsOwn
import KE.KOwnIter
import HandS.IterVal
import HandS.RaiseMore
import KE.KExcIs
import HandS.SortInts
import HandS.SortRule
import HandS.TryOnly
import HandS.ExcField
import HandS.Style
import HandS.Dict
import HandS.Text
import KE.DataEq
import PyProof.StrOps2
import HandS.TupLe
import KE.GoesEnum
import KE.GoesMore
import KE.KTupSum
import HandS.Zip
import KE.KExcSuper
import KE.KSuper
import HandS.ExcInit
import HandS.FStrTup
import HandS.OwnIter
import HandS.TupSets
import HandS.Keys
import PySem.Challenge.RW_dampspells_k06_climate_plain
set_option Elab.async false
set_option linter.all false
set_option maxRecDepth 100000
section
namespace PL
open PySem PySem.Spec PyProof.Rows L2
/-- the program's classes -/
inductive Cl
  | DampError | BadRatio | BadLacquer | BadKind | BadWeather | BadHour | BadNumber | BadRow | BadSteps | BadHabit | BadPrice | BadDiary | BadReport | TooLarge | NoWorld
  | BadText | Unsound | Strange | Spoilt | Clash | Refused
  | Ratio | Lacquer | Weather | Climate | StepSet | StepWeb | SkyWeb | Habit | HourWeb | PairWeb | HabitWeb | LongWeather | EndlessRow | Diary | Ledger | Paths | Desk
  deriving DecidableEq, Repr
/-- the fields in the order in which __init__ sets them -/
def Cl.fn : Cl → List Str
  | .BadText => ["at"] | .Unsound => ["kind"] | .Strange => ["hour"] | .Spoilt => ["hour"] | .Clash => ["hour"] | .Refused => ["why"]
  | .Ratio => ["top", "bottom"] | .Lacquer => ["a", "b"] | .Weather => ["lengths"] | .Climate => ["kinds"] | .StepSet => ["steps"] | .StepWeb => ["steps", "climate"] | .SkyWeb => ["climate"]
  | .Habit => ["sight", "rows"] | .LongWeather => ["beginning", "again"] | .Diary => ["marks"]
  | _ => []
/-- values as trees -/
inductive D where
  | non | bl (b : Bool) | int (i : Int) | str (s : Str)
  | tup (xs : List D) | lst (xs : List D) | obj (c : Cl) (xs : List D) | cl (c : Cl) | sq (xs : List D)
  | dK (ks : List Key) (xs : List D) | dT (ks : List (List Key)) (xs : List D)
/-- what a list, an object in the making, a dict holds while it may still change -/
inductive CC where
  | lst (xs : List D) | obj (c : Cl) (kvs : List (Str × D)) | dK (kvs : List (Key × D)) | dT (kvs : List (List Key × D))
/-- own: made here; par: a parameter's -/
inductive CK | own | par
  deriving DecidableEq
def CK.isPar : CK → Bool | .par => true | .own => false
inductive Sl where
  | un | dat (d : D) | cel (k : CK) (c : CC) | exn (c : Cl) (pl : Option D)
inductive Ex (α : Type) | ok (a : α) | er (c : Cl) (pl : Option D)
inductive Rv | d (d : D) | c (c : CC)
inductive Fl | nx | bk | ct | rt (r : Rv)
abbrev M (α : Type) := List Sl → Option (Ex α × List Sl)
abbrev Ev := M Rv
def bnd {α β : Type} (m : M α) (k : α → M β) : M β := fun ρ => match m ρ with
  | some (.ok a, ρ1) => k a ρ1
  | some (.er c pl, ρ1) => some (.er c pl, ρ1)
  | none => none
def pur {α : Type} (a : α) : M α := fun ρ => some (.ok a, ρ)
def fai {α : Type} : M α := fun _ => none
def opt {α : Type} : Option α → M α | some a => pur a | none => fai
def CC.froz : CC → Option D
  | .lst xs => some (.lst xs)
  | .obj c kvs => if kvs.map (·.1) = c.fn then some (.obj c (kvs.map (·.2))) else none
  | .dK kvs => some (.dK (kvs.map (·.1)) (kvs.map (·.2)))
  | .dT kvs => some (.dT (kvs.map (·.1)) (kvs.map (·.2)))
variable (K : PySem.W.Frag) (ad : Cl → Addr)
mutual
inductive Rp (F : Hp) : V → D → Prop
  | non : Rp F .non .non
  | bl (b : Bool) : Rp F (.bl b) (.bl b)
  | int (i : Int) : Rp F (.int i) (.int i)
  | str (s : Str) : Rp F (.str s) (.str s)
  | tup {p : Addr} {vs : List V} {ds : List D} : SqT K F p vs → Rps F vs ds → Rp F (.ref p) (.tup ds)
  | lst {p : Addr} {vs : List V} {ds : List D} : F p = some (.lst vs) → Rps F vs ds → Rp F (.ref p) (.lst ds)
  | sq {p : Addr} {vs : List V} {ds : List D} : SqL K F p vs → Rps F vs ds → Rp F (.ref p) (.sq ds)
  | obj {p dx : Addr} {c : Cl} {vs : List V} {ds : List D} : F p = some (.ins (ad c) dx (c.fn.zip vs)) → c.fn.length = vs.length → Rps F vs ds → Rp F (.ref p) (.obj c ds)
  | cl (c : Cl) : Rp F (.ref (ad c)) (.cl c)
  | dK {p : Addr} {ks : List Key} {vs : List V} {ds : List D} : F p = some (.dK (ks.zip vs)) → ks.length = vs.length → Rps F vs ds → Rp F (.ref p) (.dK ks ds)
  | dT {p : Addr} {ks : List (List Key)} {vs : List V} {ds : List D} : F p = some (.dT (ks.zip vs)) → ks.length = vs.length → Rps F vs ds → Rp F (.ref p) (.dT ks ds)
inductive Rps (F : Hp) : List V → List D → Prop
  | nil : Rps F [] []
  | cons {v : V} {d : D} {vs : List V} {ds : List D} : Rp F v d → Rps F vs ds → Rps F (v :: vs) (d :: ds)
end
variable {K : PySem.W.Frag} {ad : Cl → Addr}
theorem sameT {K : PySem.W.Frag} {H H' : Hp} {a : Addr} {xs : List V} (e : Same H H') (h : SqT K H a xs) : SqT K H' a xs := by
  (rcases h with (h | ⟨o, h⟩) | h)
  · exact .inl (.inl (e _ _ h))
  · (exact .inl (.inr ⟨o, e _ _ h⟩))
  · exact .inr h
mutual
theorem Rp.mono {F F' : Hp} (s : Same F F') : ∀ {v : V} {d : D}, Rp K ad F v d → Rp K ad F' v d
  | _, _, .non => .non
  | _, _, .bl b => .bl b
  | _, _, .int i => .int i
  | _, _, .str x => .str x
  | _, _, .tup h r => .tup (sameT s h) (Rps.mono s r)
  | _, _, .lst h r => .lst (s _ _ h) (Rps.mono s r)
  | _, _, .sq h r => .sq (s.seq h) (Rps.mono s r)
  | _, _, .obj h l r => .obj (s _ _ h) l (Rps.mono s r)
  | _, _, .cl c => .cl c
  | _, _, .dK h l r => .dK (s _ _ h) l (Rps.mono s r)
  | _, _, .dT h l r => .dT (s _ _ h) l (Rps.mono s r)
theorem Rps.mono {F F' : Hp} (s : Same F F') : ∀ {vs : List V} {ds : List D}, Rps K ad F vs ds → Rps K ad F' vs ds
  | _, _, .nil => .nil
  | _, _, .cons h r => .cons (Rp.mono s h) (Rps.mono s r)
end
theorem Rps.len {F : Hp} : ∀ {vs : List V} {ds : List D}, Rps K ad F vs ds → vs.length = ds.length
  | _, _, .nil => rfl
  | _, _, .cons _ r => congrArg (· + 1) r.len
theorem Rps.get {F : Hp} : ∀ {vs : List V} {ds : List D} {i : Nat} {d : D}, Rps K ad F vs ds → ds[i]? = some d → ∃ v, vs[i]? = some v ∧ Rp K ad F v d
  | _, _, _, _, .nil, e =>
    by simp at e
  | _, _, 0, _, .cons h _, e => by simp at e; subst e; exact ⟨_, rfl, h⟩
  | _, _, i + 1, d, .cons _ t, e => by
    obtain ⟨v, h1, h2⟩ := Rps.get (i := i) (d := d) t (by simpa using e)
    exact ⟨v, by simpa using h1, h2⟩
theorem Rps.app {F : Hp} : ∀ {vs : List V} {ds : List D} {us : List V} {es : List D}, Rps K ad F vs ds → Rps K ad F us es → Rps K ad F (vs ++ us) (ds ++ es)
  | _, _, _, _, .nil, s => s
  | _, _, _, _, .cons r t, s => .cons r (Rps.app t s)
theorem Rps.snoc {F : Hp} {vs : List V} {ds : List D} {v : V} {d : D} (h : Rps K ad F vs ds) (r : Rp K ad F v d) : Rps K ad F (vs ++ [v]) (ds ++ [d]) := h.app (.cons r .nil)
theorem Rps.set {F : Hp} {v : V} {d : D} (r : Rp K ad F v d) : ∀ {vs : List V} {ds : List D} (i : Nat), Rps K ad F vs ds → Rps K ad F (vs.set i v) (ds.set i d)
  | _, _, _, .nil => .nil
  | _, _, 0, .cons _ t =>
    .cons r t
  | _, _, i + 1, .cons q t => .cons q (Rps.set r i t)
theorem Rps.take {F : Hp} : ∀ {vs : List V} {ds : List D} (n : Nat), Rps K ad F vs ds → Rps K ad F (vs.take n) (ds.take n)
  | _, _, 0, _ => .nil
  | _, _, _ + 1, .nil => .nil
  | _, _, n + 1, .cons r t => .cons r (Rps.take n t)
theorem Rps.drop {F : Hp} : ∀ {vs : List V} {ds : List D} (n : Nat), Rps K ad F vs ds → Rps K ad F (vs.drop n) (ds.drop n)
  | _, _, 0, r => r
  | _, _, _ + 1, .nil => .nil
  | _, _, n + 1, .cons _ t => Rps.drop n t
theorem Rps.rev {F : Hp} : ∀ {vs : List V} {ds : List D}, Rps K ad F vs ds → Rps K ad F vs.reverse ds.reverse
  | _, _, .nil => .nil
  | _, _, .cons r t => by
    (rw [List.reverse_cons, List.reverse_cons])
    exact (Rps.rev t).snoc r
theorem Rps.ints {F : Hp} : ∀ {ns : List Int} {vs : List V}, Rps K ad F vs (ns.map D.int) → vs = ns.map V.int
  | [], _, h => by cases h; rfl
  | n :: ns, _, h => by
    rw [List.map_cons] at h
    cases h with
    | cons h t => cases h; rw [List.map_cons, Rps.ints t]
theorem Rps.bls {F : Hp} : ∀ {ns : List Bool} {vs : List V}, Rps K ad F vs (ns.map D.bl) → vs = ns.map V.bl
  | [], _, h => by cases h; rfl
  | n :: ns, _, h => by
    rw [List.map_cons] at h
    cases h with
    | cons h t => cases h; rw [List.map_cons, Rps.bls t]
theorem Rps.strs {F : Hp} : ∀ {ns : List Str} {vs : List V}, Rps K ad F vs (ns.map D.str) → vs = ns.map V.str
  | [], _, h => by cases h; rfl
  | n :: ns, _, h => by
    rw [List.map_cons] at h
    cases h with
    | cons h t => cases h; rw [List.map_cons, Rps.strs t]
variable (K ad) in
def CelR (F H : Hp) (p : Addr) : CC → Prop
  | .lst xs => ∃ vs, H p = some (.lst vs) ∧ Rps K ad F vs xs
  | .obj c kvs => ∃ dx vs, H p = some (.ins (ad c) dx ((kvs.map (·.1)).zip vs)) ∧ Rps K ad F vs (kvs.map (·.2))
  | .dK kvs => ∃ vs, H p = some (.dK ((kvs.map (·.1)).zip vs)) ∧ Rps K ad F vs (kvs.map (·.2))
  | .dT kvs => ∃ vs, H p = some (.dT ((kvs.map (·.1)).zip vs)) ∧ Rps K ad F vs (kvs.map (·.2))
theorem CelR.at {F H : Hp} {p : Addr} : ∀ {c : CC}, CelR K ad F H p c → ∃ o, H p = some o
  | .lst _, ⟨_, h, _⟩ => ⟨_, h⟩
  | .obj _ _, ⟨_, _, h, _⟩ => ⟨_, h⟩
  | .dK _, ⟨_, h, _⟩ => ⟨_, h⟩
  | .dT _, ⟨_, h, _⟩ => ⟨_, h⟩
theorem CelR.keep {F F' H H' : Hp} {p : Addr} (s : Same F F') (e : H' p = H p) : ∀ {c : CC}, CelR K ad F H p c → CelR K ad F' H' p c
  | .lst _, ⟨vs, h, r⟩ => ⟨vs, e.trans h, r.mono s⟩
  | .obj _ _, ⟨dx, vs, h, r⟩ => ⟨dx, vs, e.trans h, r.mono s⟩
  | .dK _, ⟨vs, h, r⟩ => ⟨vs, e.trans h, r.mono s⟩
  | .dT _, ⟨vs, h, r⟩ => ⟨vs, e.trans h, r.mono s⟩
/-- frozen: what stands at p is data from now on -/
theorem CelR.froz {F H : Hp} {p : Addr} {d : D} : ∀ {c : CC}, CelR K ad F H p c → c.froz = some d → F p = none → ∃ o, H p = some o ∧ Same F (upd F p o) ∧ Rp K ad (upd F p o) (.ref p) d
  | .lst xs, ⟨vs, h, r⟩, e, n => by
    cases e
    have s : Same F (upd F p (.lst vs)) := fun b u q => by rw [upd_ne (ne_of_none q n)]; exact q
    exact ⟨_, h, s, .lst upd_same (r.mono s)⟩
  | .obj c kvs, ⟨dx, vs, h, r⟩, e, n => by
    have e : (if kvs.map (·.1) = c.fn then some (D.obj c (kvs.map (·.2))) else none) = some d := e
    split at e
    · rename_i q
      cases e
      have s : Same F (upd F p (.ins (ad c) dx ((kvs.map (·.1)).zip vs))) := fun b u q => by rw [upd_ne (ne_of_none q n)]; exact q
      refine ⟨_, h, s, .obj (dx := dx) (vs := vs) ?_ ?_ (r.mono s)⟩
      · rw [upd_same, q]
      · have := r.len
        rw [← q, List.length_map, this, List.length_map]
    · cases e
  | .dK kvs, ⟨vs, h, r⟩, e, n => by
    cases e
    have s : Same F (upd F p (.dK ((kvs.map (·.1)).zip vs))) := fun b u q => by rw [upd_ne (ne_of_none q n)]; exact q
    refine ⟨_, h, s, .dK upd_same ?_ (r.mono s)⟩
    have := r.len
    rw [List.length_map, this, List.length_map]
  | .dT kvs, ⟨vs, h, r⟩, e, n => by
    cases e
    have s : Same F (upd F p (.dT ((kvs.map (·.1)).zip vs))) := fun b u q => by rw [upd_ne (ne_of_none q n)]; exact q
    refine ⟨_, h, s, .dT upd_same ?_ (r.mono s)⟩
    have := r.len
    rw [List.length_map, this, List.length_map]
/-- the frame: what must stay, what was data at the start, the parameters that may change, the handled exception -/
structure Fr where
  P : Hp
  F0 : Hp
  pa : Nat → Option Addr
/-- the classes' places, and the exception that a suite holds -/
structure CT where
  ad : Cl → Addr
  ea : Addr := 0
  ecl : Value := .none
  ed : Option Addr := none
abbrev cx (ad : Cl → Addr) : CT := { ad := ad }
variable {ct : CT}
variable (K ad) in
def PlR (F : Hp) (c : Cl) : Option D → Option Addr → Prop
  | none, d => d = none
  | some x, d => ∃ a f v, d = some a ∧ c.fn = [f] ∧ F a = some (.xd [(f, v)]) ∧ Rp K ad F v x
theorem PlR.mono {F F' : Hp} (s : Same F F') {c : Cl} {d : Option Addr} : ∀ {pl : Option D}, PlR K ad F c pl d → PlR K ad F' c pl d
  | none, h => h
  | some _, ⟨a, f, v, h1, h2, h3, h4⟩ => ⟨a, f, v, h1, h2, s _ _ h3, h4.mono s⟩
variable (K ct) in
def SlR (fr : Fr) (F H : Hp) (i : Nat) (o : Option V) : Sl → Prop
  | .un => True
  | .dat d => ∃ v, o = some v ∧ Rp K ct.ad F v d
  | .cel k c => ∃ p, o = some (.ref p) ∧ F p = none ∧ fr.P p = none ∧ (k.isPar = true → fr.pa i = some p) ∧ (k.isPar = false → ∀ j, fr.pa j ≠ some p) ∧ CelR K ct.ad F H p c
  | .exn c pl => o = some (.ref ct.ea) ∧ ct.ecl = .ref (ct.ad c) ∧ PlR K ct.ad F c pl ct.ed
variable (K ct) in
structure Rel (fr : Fr) (F H : Hp) (σ : L2.St) (ρ : List Sl) : Prop where
  len : σ.length = ρ.length
  fh : Same F H
  slot : ∀ (i : Nat) (s : Sl), ρ[i]? = some s → ∃ o, σ[i]? = some o ∧ SlR K ct fr F H i o s
  dis : ∀ (i j : Nat) (k : CK) (c : CC) (k' : CK) (c' : CC) (p : Addr), ρ[i]? = some (.cel k c) → ρ[j]? = some (.cel k' c') → σ[i]? = some (some (.ref p)) → σ[j]? = some (some (.ref p)) → i = j
  keep : Same fr.P H
  fro : ∀ b, fr.P b ≠ none → fr.F0 b = none → F b = none
  pcs : ∀ (i : Nat) (p : Addr), fr.pa i = some p → ∃ k c, ρ[i]? = some (.cel k c) ∧ k.isPar = true
variable (K ad) in
/-- a new cell that no slot has -/
def Fresh (fr : Fr) (F H : Hp) (σ : L2.St) (ρ : List Sl) (p : Addr) (c : CC) : Prop :=
  F p = none ∧ fr.P p = none ∧ (∀ j, fr.pa j ≠ some p) ∧ CelR K ad F H p c ∧ ∀ (i : Nat) (k : CK) (c' : CC), ρ[i]? = some (.cel k c') → σ[i]? ≠ some (some (.ref p))
section
variable {fr : Fr} {F F' H H' : Hp} {σ : L2.St} {ρ : List Sl}
/-- the heaps grow -/
theorem Rel.grow (S : Rel K ct fr F H σ ρ) (f : Same F F') (h : Same H H') (fh : Same F' H') (n : ∀ b, H b ≠ none → F b = none → F' b = none) : Rel K ct fr F' H' σ ρ := by
  refine ⟨S.len, fh, fun i s e => ?_, S.dis, S.keep.trans h, fun b hb h0 => n b (fun z => ?_) (S.fro b hb h0), S.pcs⟩
  · obtain ⟨o, e1, r⟩ := S.slot i s e
    refine ⟨o, e1, ?_⟩
    cases s with
    | un => trivial
    | dat d => obtain ⟨v, e2, r⟩ := r; exact ⟨v, e2, r.mono f⟩
    | cel k c =>
      obtain ⟨p, e2, e3, e4, e5, e6, r⟩ := r
      obtain ⟨o', ho⟩ := r.at
      refine ⟨p, e2, n p (by rw [ho]; simp) e3, e4, e5, e6, r.keep f ?_⟩
      rw [h _ _ ho, ho]
    | exn c pl => exact ⟨r.1, r.2.1, r.2.2.mono f⟩
  · cases q : fr.P b with
    | none => exact hb q
    | some o => rw [S.keep b o q] at z; cases z
theorem Fresh.grow {p : Addr} {c : CC} (S : Fresh K ad fr F H σ ρ p c) (f : Same F F') (h : Same H H') (n : ∀ b, H b ≠ none → F b = none → F' b = none) : Fresh K ad fr F' H' σ ρ p c := by
  obtain ⟨h1, h2, h3, h4, h5⟩ := S
  obtain ⟨o', ho⟩ := h4.at
  exact ⟨n p (by rw [ho]; simp) h1, h2, h3, h4.keep f (by rw [h _ _ ho, ho]), h5⟩
theorem Rel.nn (S : Rel K ct fr F H σ ρ) {p : Addr} (h : H p = none) : F p = none := by
  cases q : F p with
  | none => rfl
  | some o => rw [S.fh p o q] at h; cases h
theorem Rel.np (S : Rel K ct fr F H σ ρ) {p : Addr} (h : H p = none) : fr.P p = none := by
  cases q : fr.P p with
  | none => rfl
  | some o => rw [S.keep p o q] at h; cases h
theorem same_up {H : Hp} {p : Addr} {o : HO} (h : H p = none) : Same H (upd H p o) := fun b u e => by
  rw [upd_ne (ne_of_none e h)]
  exact e
/-- a new object, data at once -/
theorem Rel.newD (S : Rel K ct fr F H σ ρ) {p : Addr} {o : HO} (h : H p = none) : Rel K ct fr (upd F p o) (upd H p o) σ ρ := by
  refine S.grow (same_up (S.nn h)) (same_up h) (fun b u e => ?_) fun b hb e => ?_
  · by_cases q : b = p
    · subst q; rw [upd_same] at e; rw [upd_same]; exact e
    · rw [upd_ne q] at e; rw [upd_ne q]; exact S.fh _ _ e
  · rw [upd_ne (fun q => hb (by rw [q]; exact h))]
    exact e
/-- a new object, not yet data -/
theorem Rel.newC (S : Rel K ct fr F H σ ρ) {p : Addr} {o : HO} (h : H p = none) : Rel K ct fr F (upd H p o) σ ρ :=
  S.grow (Same.refl _) (same_up h) (S.fh.trans (same_up h)) fun _ _ e => e
theorem Rel.cell_at (S : Rel K ct fr F H σ ρ) {i : Nat} {k : CK} {c : CC} (e : ρ[i]? = some (.cel k c)) : ∃ p o, σ[i]? = some (some (.ref p)) ∧ H p = some o := by
  obtain ⟨o, e1, p, e2, _, _, _, _, r⟩ := S.slot i _ e
  obtain ⟨o', ho⟩ := r.at
  exact ⟨p, o', by rw [e1, e2], ho⟩
theorem Rel.fresh (S : Rel K ct fr F H σ ρ) {p : Addr} {o : HO} {c : CC} (h : H p = none) (r : CelR K ct.ad F (upd H p o) p c) : Fresh K ct.ad fr F (upd H p o) σ ρ p c := by
  refine ⟨S.nn h, S.np h, fun j e => ?_, r, fun i k c' e1 e2 => ?_⟩
  · obtain ⟨k, c, e1, hk⟩ := S.pcs j p e
    obtain ⟨o1, _, p', rfl, _, _, e5, e6, r'⟩ := S.slot j _ e1
    obtain ⟨o', ho⟩ := r'.at
    have z := e5 hk
    rw [e] at z
    cases z
    rw [h] at ho
    cases ho
  · obtain ⟨p', o', e3, ho⟩ := S.cell_at e1
    rw [e3] at e2
    cases e2
    rw [h] at ho
    cases ho
/-- a slot gets data -/
theorem Rel.setD (S : Rel K ct fr F H σ ρ) {i : Nat} {v : V} {d : D} (r : Rp K ct.ad F v d) (np : fr.pa i = none) : Rel K ct fr F H (σ.set i (some v)) (ρ.set i (.dat d)) := by
  have dn : ∀ {j : Nat} {k : CK} {c : CC}, (ρ.set i (.dat d))[j]? = some (.cel k c) → j ≠ i ∧ ρ[j]? = some (.cel k c) := fun {j k c} e => by
    by_cases q : i = j
    · subst q
      by_cases l : i < ρ.length
      · rw [List.getElem?_set_self l] at e; cases e
      · rw [List.getElem?_eq_none (by simp; omega)] at e; cases e
    · rw [List.getElem?_set_ne q] at e; exact ⟨fun z => q z.symm, e⟩
  refine ⟨by simp [S.len], S.fh, fun j s e => ?_, fun a b k c k' c' p e1 e2 e3 e4 => ?_, S.keep, S.fro, fun j p e => ?_⟩
  · by_cases q : i = j
    · subst q
      by_cases l : i < ρ.length
      · rw [List.getElem?_set_self l] at e
        cases e
        exact ⟨some v, by rw [List.getElem?_set_self (by rw [S.len]; exact l)], v, rfl, r⟩
      · rw [List.getElem?_eq_none (by simp; omega)] at e; cases e
    · rw [List.getElem?_set_ne q] at e
      obtain ⟨o, h1, h2⟩ := S.slot j s e
      exact ⟨o, by rw [List.getElem?_set_ne q]; exact h1, h2⟩
  · obtain ⟨n1, f1⟩ := dn e1
    obtain ⟨n2, f2⟩ := dn e2
    rw [List.getElem?_set_ne (Ne.symm n1)] at e3
    rw [List.getElem?_set_ne (Ne.symm n2)] at e4
    exact S.dis a b k c k' c' p f1 f2 e3 e4
  · obtain ⟨k, c, h1, h2⟩ := S.pcs j p e
    refine ⟨k, c, ?_, h2⟩
    rw [List.getElem?_set_ne (fun q => by rw [q, e] at np; cases np)]
    exact h1
/-- a slot is forgotten, what stands there stays -/
theorem Rel.setU (S : Rel K ct fr F H σ ρ) {i : Nat} (np : fr.pa i = none) {w : Option V} : Rel K ct fr F H (σ.set i w) (ρ.set i .un) := by
  have dn : ∀ {j : Nat} {k : CK} {c : CC}, (ρ.set i .un)[j]? = some (.cel k c) → j ≠ i ∧ ρ[j]? = some (.cel k c) := fun {j k c} e => by
    by_cases q : i = j
    · subst q
      by_cases l : i < ρ.length
      · rw [List.getElem?_set_self l] at e; cases e
      · rw [List.getElem?_eq_none (by simp; omega)] at e; cases e
    · rw [List.getElem?_set_ne q] at e; exact ⟨fun z => q z.symm, e⟩
  refine ⟨by simp [S.len], S.fh, fun j s e => ?_, fun a b k c k' c' p e1 e2 e3 e4 => ?_, S.keep, S.fro, fun j p e => ?_⟩
  · by_cases q : i = j
    · subst q
      by_cases l : i < ρ.length
      · rw [List.getElem?_set_self l] at e
        cases e
        exact ⟨w, by rw [List.getElem?_set_self (by rw [S.len]; exact l)], trivial⟩
      · rw [List.getElem?_eq_none (by simp; omega)] at e; cases e
    · rw [List.getElem?_set_ne q] at e
      obtain ⟨o, h1, h2⟩ := S.slot j s e
      exact ⟨o, by rw [List.getElem?_set_ne q]; exact h1, h2⟩
  · obtain ⟨n1, f1⟩ := dn e1
    obtain ⟨n2, f2⟩ := dn e2
    rw [List.getElem?_set_ne (Ne.symm n1)] at e3
    rw [List.getElem?_set_ne (Ne.symm n2)] at e4
    exact S.dis a b k c k' c' p f1 f2 e3 e4
  · obtain ⟨k, c, h1, h2⟩ := S.pcs j p e
    refine ⟨k, c, ?_, h2⟩
    rw [List.getElem?_set_ne (fun q => by rw [q, e] at np; cases np)]
    exact h1
theorem set_id {α : Type} {xs : List α} {i : Nat} {x : α} (h : xs[i]? = some x) : xs.set i x = xs := by
  (refine List.ext_getElem? fun j => ?_)
  by_cases q : i = j
  · subst q
    rw [List.getElem?_set_self (List.getElem?_eq_some_iff.mp h).1, h]
  · rw [List.getElem?_set_ne q]
/-- a slot is forgotten -/
theorem Rel.unR (S : Rel K ct fr F H σ ρ) {i : Nat} (np : fr.pa i = none) : Rel K ct fr F H σ (ρ.set i .un) := by
  by_cases l : i < σ.length
  · have e : σ.set i σ[i] = σ := set_id (List.getElem?_eq_getElem l)
    have := S.setU (w := σ[i]) np
    rw [e] at this
    exact this
  · rw [List.set_eq_of_length_le (by rw [← S.len]; omega)]
    exact S
/-- a slot gets a cell that nobody has -/
theorem Rel.setC (S : Rel K ct fr F H σ ρ) {i : Nat} {p : Addr} {c : CC} (r : Fresh K ct.ad fr F H σ ρ p c) (np : fr.pa i = none) : Rel K ct fr F H (σ.set i (some (.ref p))) (ρ.set i (.cel .own c)) := by
  obtain ⟨r1, r2, r3, r4, r5⟩ := r
  have dn : ∀ {j : Nat} {k : CK} {c' : CC}, (ρ.set i (.cel .own c))[j]? = some (.cel k c') → (j = i) ∨ (j ≠ i ∧ ρ[j]? = some (.cel k c')) := fun {j k c'} e => by
    by_cases q : i = j
    · exact .inl q.symm
    · rw [List.getElem?_set_ne q] at e; exact .inr ⟨fun z => q z.symm, e⟩
  refine ⟨by simp [S.len], S.fh, fun j s e => ?_, fun a b k d k' d' q e1 e2 e3 e4 => ?_, S.keep, S.fro, fun j p e => ?_⟩
  · by_cases q : i = j
    · subst q
      by_cases l : i < ρ.length
      · rw [List.getElem?_set_self l] at e
        cases e
        exact ⟨_, by rw [List.getElem?_set_self (by rw [S.len]; exact l)], p, rfl, r1, r2, (fun z => by cases z), (fun _ => r3), r4⟩
      · rw [List.getElem?_eq_none (by simp; omega)] at e; cases e
    · rw [List.getElem?_set_ne q] at e
      obtain ⟨o, h1, h2⟩ := S.slot j s e
      exact ⟨o, by rw [List.getElem?_set_ne q]; exact h1, h2⟩
  · have at_i : ∀ {z : Option V}, (σ.set i (some (.ref p)))[i]? = some z → z = some (.ref p) := fun {z} h => by
      by_cases l : i < σ.length
      · rw [List.getElem?_set_self l] at h; cases h; rfl
      · rw [List.getElem?_eq_none (by simp; omega)] at h; cases h
    rcases dn e1 with z1 | ⟨n1, f1⟩
    · rcases dn e2 with z2 | ⟨n2, f2⟩
      · rw [z1, z2]
      · subst z1
        have := at_i e3
        cases this
        rw [List.getElem?_set_ne (Ne.symm n2)] at e4
        exact absurd e4 (r5 _ _ _ f2)
    · rcases dn e2 with z2 | ⟨n2, f2⟩
      · subst z2
        have := at_i e4
        cases this
        rw [List.getElem?_set_ne (Ne.symm n1)] at e3
        exact absurd e3 (r5 _ _ _ f1)
      · rw [List.getElem?_set_ne (Ne.symm n1)] at e3
        rw [List.getElem?_set_ne (Ne.symm n2)] at e4
        exact S.dis a b k d k' d' q f1 f2 e3 e4
  · obtain ⟨k, c, h1, h2⟩ := S.pcs j p e
    refine ⟨k, c, ?_, h2⟩
    rw [List.getElem?_set_ne (fun q => by rw [q, e] at np; cases np)]
    exact h1
/-- a cell's content changes -/
theorem Rel.updC (S : Rel K ct fr F H σ ρ) {i : Nat} {p : Addr} {k k' : CK} {c c' : CC} {o : HO} (e : ρ[i]? = some (.cel k c)) (es : σ[i]? = some (some (.ref p))) (hk : k'.isPar = k.isPar) (r : CelR K ct.ad F (upd H p o) p c') : Rel K ct fr F (upd H p o) σ (ρ.set i (.cel k' c')) := by
  obtain ⟨o1, q1, p', q2, q3, q4, q5, q6, q7⟩ := S.slot i _ e
  rw [q1] at es
  cases es
  cases q2
  have il := (List.getElem?_eq_some_iff.mp e).1
  have fp : ∀ b u, F b = some u → b ≠ p := fun b u z w => by rw [w, q3] at z; cases z
  have dn : ∀ {j : Nat} {k1 : CK} {c1 : CC}, (ρ.set i (.cel k' c'))[j]? = some (.cel k1 c1) → ∃ k2 c2, ρ[j]? = some (.cel k2 c2) := fun {j k1 c1} z => by
    by_cases q : i = j
    · subst q; exact ⟨k, c, e⟩
    · rw [List.getElem?_set_ne q] at z; exact ⟨_, _, z⟩
  refine ⟨by simp [S.len], fun b u z => ?_, fun j s z => ?_, fun a b k1 d k2 d' q e1 e2 e3 e4 => ?_, fun b u z => ?_, S.fro, fun j q z => ?_⟩
  · rw [upd_ne (fp b u z)]; exact S.fh _ _ z
  · by_cases q : i = j
    · subst q
      rw [List.getElem?_set_self il] at z
      cases z
      exact ⟨_, q1, p, rfl, q3, q4, (fun y => q5 (hk ▸ y)), (fun y => q6 (hk ▸ y)), r⟩
    · rw [List.getElem?_set_ne q] at z
      obtain ⟨u, h1, h2⟩ := S.slot j s z
      refine ⟨u, h1, ?_⟩
      cases s with
      | un => trivial
      | dat d => exact h2
      | cel k1 c1 =>
        obtain ⟨p1, g1, g2, g3, g4, g5, g6⟩ := h2
        subst g1
        refine ⟨p1, rfl, g2, g3, g4, g5, g6.keep (Same.refl _) ?_⟩
        rw [upd_ne]
        intro w
        subst w
        exact q (S.dis i j k c k1 c1 p1 e z q1 h1)
      | exn _ _ => exact h2
  · obtain ⟨_, _, f1⟩ := dn e1
    obtain ⟨_, _, f2⟩ := dn e2
    exact S.dis a b _ _ _ _ q f1 f2 e3 e4
  · rw [upd_ne (fun w => by rw [w, q4] at z; cases z)]; exact S.keep _ _ z
  · obtain ⟨k1, c1, h1, h2⟩ := S.pcs j q z
    by_cases w : i = j
    · subst w
      rw [e] at h1
      cases h1
      exact ⟨k', c', by rw [List.getElem?_set_self il], by rw [hk]; exact h2⟩
    · exact ⟨k1, c1, by rw [List.getElem?_set_ne w]; exact h1, h2⟩
/-- lock, unlock -/
theorem Rel.lock (S : Rel K ct fr F H σ ρ) {i : Nat} {k k' : CK} {c : CC} (e : ρ[i]? = some (.cel k c)) (hk : k'.isPar = k.isPar) : Rel K ct fr F H σ (ρ.set i (.cel k' c)) := by
  obtain ⟨o1, q1, p, q2, q3, q4, q5, q6, q7⟩ := S.slot i _ e
  obtain ⟨o, ho⟩ := q7.at
  have eq : upd H p o = H := by
    funext b
    by_cases w : b = p
    · subst w; rw [upd_same, ho]
    · rw [upd_ne w]
  subst q2
  have := S.updC (k' := k') (c' := c) (o := o) e q1 hk (by rw [eq]; exact q7)
  rw [eq] at this
  exact this
/-- a cell becomes data -/
theorem Rel.frz (S : Rel K ct fr F H σ ρ) {i : Nat} {k : CK} {c : CC} {d : D} (e : ρ[i]? = some (.cel k c)) (hk : k.isPar = false) (hf : c.froz = some d) :
    ∃ p F', σ[i]? = some (some (.ref p)) ∧ Same F F' ∧ Rp K ct.ad F' (.ref p) d ∧ Rel K ct fr F' H σ (ρ.set i (.dat d)) := by
  obtain ⟨o1, q1, p, q2, q3, q4, q5, q6, q7⟩ := S.slot i _ e
  subst q2
  obtain ⟨o, ho, sm, rp⟩ := q7.froz hf q3
  have il := (List.getElem?_eq_some_iff.mp e).1
  have np : fr.pa i = none := by
    cases z : fr.pa i with
    | none => rfl
    | some q =>
      obtain ⟨k1, c1, h1, h2⟩ := S.pcs i q z
      rw [e] at h1
      cases h1
      rw [hk] at h2
      cases h2
  have dn : ∀ {j : Nat} {k1 : CK} {c1 : CC}, (ρ.set i (.dat d))[j]? = some (.cel k1 c1) → j ≠ i ∧ ρ[j]? = some (.cel k1 c1) := fun {j k1 c1} z => by
    by_cases q : i = j
    · subst q; rw [List.getElem?_set_self il] at z; cases z
    · rw [List.getElem?_set_ne q] at z; exact ⟨fun w => q w.symm, z⟩
  refine ⟨p, _, q1, sm, rp, by simp [S.len], fun b u z => ?_, fun j s z => ?_, fun a b k1 d1 k2 d2 q e1 e2 e3 e4 => ?_, S.keep, fun b hb h0 => ?_, fun j q z => ?_⟩
  · by_cases w : b = p
    · subst w; rw [upd_same] at z; cases z; exact ho
    · rw [upd_ne w] at z; exact S.fh _ _ z
  · by_cases q : i = j
    · subst q
      rw [List.getElem?_set_self il] at z
      cases z
      exact ⟨_, q1, _, rfl, rp⟩
    · rw [List.getElem?_set_ne q] at z
      obtain ⟨u, h1, h2⟩ := S.slot j s z
      refine ⟨u, h1, ?_⟩
      cases s with
      | un => trivial
      | dat d => obtain ⟨v, g1, g2⟩ := h2; exact ⟨v, g1, g2.mono sm⟩
      | cel k1 c1 =>
        obtain ⟨p1, g1, g2, g3, g4, g5, g6⟩ := h2
        subst g1
        refine ⟨p1, rfl, ?_, g3, g4, g5, g6.keep sm rfl⟩
        rw [upd_ne]
        · exact g2
        · intro w
          subst w
          exact q (S.dis i j k c k1 c1 p1 e z q1 h1)
      | exn _ _ => exact ⟨h2.1, h2.2.1, h2.2.2.mono sm⟩
  · obtain ⟨_, f1⟩ := dn e1
    obtain ⟨_, f2⟩ := dn e2
    exact S.dis a b _ _ _ _ q f1 f2 e3 e4
  · rw [upd_ne (fun w => hb (by rw [w]; exact q4))]
    exact S.fro b hb h0
  · obtain ⟨k1, c1, h1, h2⟩ := S.pcs j q z
    exact ⟨k1, c1, by rw [List.getElem?_set_ne (fun w => by rw [w, z] at np; cases np)]; exact h1, h2⟩
/-- a new cell becomes data -/
theorem Fresh.frz {p : Addr} {c : CC} {d : D} (r : Fresh K ct.ad fr F H σ ρ p c) (S : Rel K ct fr F H σ ρ) (hf : c.froz = some d) : ∃ F', Same F F' ∧ Rp K ct.ad F' (.ref p) d ∧ Rel K ct fr F' H σ ρ := by
  obtain ⟨r1, r2, r3, r4, r5⟩ := r
  obtain ⟨o, ho, sm, rp⟩ := r4.froz hf r1
  refine ⟨_, sm, rp, S.len, fun b u z => ?_, fun j s z => ?_, S.dis, S.keep, fun b hb h0 => ?_, S.pcs⟩
  · by_cases w : b = p
    · subst w; rw [upd_same] at z; cases z; exact ho
    · rw [upd_ne w] at z; exact S.fh _ _ z
  · obtain ⟨u, h1, h2⟩ := S.slot j s z
    refine ⟨u, h1, ?_⟩
    cases s with
    | un => trivial
    | dat d => obtain ⟨v, g1, g2⟩ := h2; exact ⟨v, g1, g2.mono sm⟩
    | cel k1 c1 =>
      obtain ⟨p1, g1, g2, g3, g4, g5, g6⟩ := h2
      subst g1
      refine ⟨p1, rfl, ?_, g3, g4, g5, g6.keep sm rfl⟩
      rw [upd_ne]
      · exact g2
      · intro w
        subst w
        exact r5 _ _ _ z h1
    | exn _ _ => exact ⟨h2.1, h2.2.1, h2.2.2.mono sm⟩
  · rw [upd_ne (fun w => hb (by rw [w]; exact r2))]
    exact S.fro b hb h0
end
end PL
end
section
namespace PL
open PySem PySem.Spec PyProof.Rows L2
variable {K : PySem.W.Frag} {ad : Cl → Addr} {ct : CT}
abbrev Rel3 (β α : Type) := Fr → Hp → Hp → L2.St → List Sl → β → α → Prop
variable (K ct) in
def Tat {β α : Type} (R : Rel3 β α) (W : WX) (fr : Fr) (F : Hp) (ρ : List Sl) (m : M α) (σ : L2.St) (Q : β → Hp → Prop) : Prop :=
  ∃ r ρ', m ρ = some (r, ρ') ∧ match r with
    | .ok a => ∀ v F' H', Same F F' → Rel K ct fr F' H' σ ρ' → R fr F' H' σ ρ' v a → Q v H'
    | .er c pl => ∀ d F' H', Same F F' → Rel K ct fr F' H' σ ρ' → PlR K ct.ad F' c pl d → W (.ref (ct.ad c)) d σ H'
variable (K ct) in
def T {β α : Type} (R : Rel3 β α) (W : WX) (m : M α) : L2.St → Hp → (β → Hp → Prop) → Prop := fun σ H Q => ∃ fr F ρ, Rel K ct fr F H σ ρ ∧ Tat K ct R W fr F ρ m σ Q
variable (K ad) in
def RD : Rel3 V D := fun _ F _ _ _ v d => Rp K ad F v d
variable (K ad) in
def RV : Rel3 V Rv := fun fr F H σ ρ v r => match r with
  | .d d => Rp K ad F v d
  | .c c => ∃ p, v = .ref p ∧ Fresh K ad fr F H σ ρ p c
def RB : Rel3 Bool Bool := fun _ _ _ _ _ b a => b = a
/-- an argument: data, or a cell that stands in slot j -/
inductive Ar | d (d : D) | c (j : Nat)
variable (K ad) in
def RA1 (F : Hp) (σ : L2.St) (v : V) : Ar → Prop
  | .d d => Rp K ad F v d
  | .c j => σ[j]? = some (some v)
variable (K ad) in
inductive RAs (F : Hp) (σ : L2.St) : List V → List Ar → Prop
  | nil : RAs F σ [] []
  | cons {v : V} {a : Ar} {vs : List V} {as : List Ar} : RA1 K ad F σ v a → RAs F σ vs as → RAs F σ (v :: vs) (a :: as)
variable (K ad) in
def RA : Rel3 (List V) (List Ar) := fun _ F _ σ _ vs as => RAs K ad F σ vs as
variable (K ad) in
def RDs : Rel3 (List V) (List D) := fun _ F _ _ _ vs ds => Rps K ad F vs ds
variable {fr : Fr} {F F' H H' : Hp} {σ : L2.St} {ρ : List Sl} {W : WX}
section
variable {α β γ δ : Type} {R : Rel3 β α} {R' : Rel3 δ γ} {m : M α} {k : α → M γ} {Q : δ → Hp → Prop} {Q1 : β → Hp → Prop}
theorem Tat.bndT (h : Tat K ct R' W fr F ρ (PL.bnd m k) σ Q)
    (hq : ∀ F1 H1 ρ1 v a, Same F F1 → Rel K ct fr F1 H1 σ ρ1 → R fr F1 H1 σ ρ1 v a → Tat K ct R' W fr F1 ρ1 (k a) σ Q → Q1 v H1) : Tat K ct R W fr F ρ m σ Q1 := by
  obtain ⟨r, ρ', e, q⟩ := h
  unfold PL.bnd at e
  cases em : m ρ with
  | none => rw [em] at e; cases e
  | some x =>
    obtain ⟨r1, ρ1⟩ := x
    rw [em] at e
    cases r1 with
    | ok a =>
      refine ⟨.ok a, ρ1, em, fun v F1 H1 s1 S1 r1 => hq F1 H1 ρ1 v a s1 S1 r1 ⟨r, ρ', e, ?_⟩⟩
      cases r with
      | ok z => exact fun v F' H' s' => q v F' H' (s1.trans s')
      | er c pl => exact fun d F' H' s' => q d F' H' (s1.trans s')
    | er c pl =>
      refine ⟨.er c pl, ρ1, em, ?_⟩
      have e : (some (Ex.er c pl, ρ1) : Option (Ex γ × List Sl)) = some (r, ρ') := e
      cases e
      exact q
theorem Tat.bnd (h : Tat K ct R' W fr F ρ (PL.bnd m k) σ Q) (S : Rel K ct fr F H σ ρ)
    (hq : ∀ F1 H1 ρ1 v a, Same F F1 → Rel K ct fr F1 H1 σ ρ1 → R fr F1 H1 σ ρ1 v a → Tat K ct R' W fr F1 ρ1 (k a) σ Q → Q1 v H1) : T K ct R W m σ H Q1 := ⟨fr, F, ρ, S, h.bndT hq⟩
theorem Tat.ok {a : γ} (h : Tat K ct R' W fr F ρ (pur a) σ Q) : ∀ v F' H', Same F F' → Rel K ct fr F' H' σ ρ → R' fr F' H' σ ρ v a → Q v H' := by
  obtain ⟨r, ρ', e, q⟩ := h
  cases e
  exact q
theorem Tat.opt {o : Option γ} (h : Tat K ct R' W fr F ρ (PL.opt o) σ Q) : ∃ a, o = some a ∧ ∀ v F' H', Same F F' → Rel K ct fr F' H' σ ρ → R' fr F' H' σ ρ v a → Q v H' := by
  cases o with
  | none => obtain ⟨r, ρ', e, q⟩ := h; cases e
  | some a => exact ⟨a, rfl, h.ok⟩
theorem Tat.to (h : Tat K ct R W fr F ρ m σ Q1) (S : Rel K ct fr F H σ ρ) : T K ct R W m σ H Q1 := ⟨fr, F, ρ, S, h⟩
theorem Tat.mono (h : Tat K ct R W fr F ρ m σ Q1) (s : Same F F') : Tat K ct R W fr F' ρ m σ Q1 := by
  obtain ⟨r, ρ', e, q⟩ := h
  refine ⟨r, ρ', e, ?_⟩
  cases r with
  | ok z => exact fun v F' H' s' => q v F' H' (s.trans s')
  | er c pl => exact fun d F' H' s' => q d F' H' (s.trans s')
end
/-- the value as data: a new cell is frozen -/
def dat (m : Ev) : M D := bnd m fun r => match r with
  | .d d => pur d
  | .c c => opt c.froz
theorem Tat.datT {δ γ : Type} {R' : Rel3 δ γ} {m : Ev} {k : D → M γ} {Q : δ → Hp → Prop} {Q1 : V → Hp → Prop} (h : Tat K ct R' W fr F ρ (PL.bnd (PL.dat m) k) σ Q)
    (hq : ∀ F1 H1 ρ1 v d, Same F F1 → Rel K ct fr F1 H1 σ ρ1 → Rp K ct.ad F1 v d → Tat K ct R' W fr F1 ρ1 (k d) σ Q → Q1 v H1) : Tat K ct (RV K ct.ad) W fr F ρ m σ Q1 := by
  have e : PL.bnd (PL.dat m) k = PL.bnd m fun r => PL.bnd (match r with | Rv.d d => pur d | Rv.c c => PL.opt c.froz) k := by
    funext ρ
    unfold PL.dat PL.bnd
    cases em : m ρ with
    | none => rfl
    | some x =>
      obtain ⟨r1, ρ1⟩ := x
      cases r1 with
      | ok a => cases a <;> rfl
      | er c pl => rfl
  rw [e] at h
  refine h.bndT fun F1 H1 ρ1 v r s1 S1 r1 q => ?_
  cases r with
  | d d => exact hq F1 H1 ρ1 v d s1 S1 r1 (by obtain ⟨r, ρ', e, q⟩ := q; exact ⟨r, ρ', e, q⟩)
  | c c =>
    obtain ⟨p, ev, fp⟩ := r1
    subst ev
    cases ef : c.froz with
    | none =>
      obtain ⟨r, ρ', e, q⟩ := q
      have e : PL.bnd (PL.opt c.froz) k ρ1 = some (r, ρ') := e
      rw [ef] at e
      cases e
    | some d =>
      obtain ⟨F2, s2, rp, S2⟩ := fp.frz S1 ef
      refine hq F2 H1 ρ1 _ d (s1.trans s2) S2 rp ?_
      have q2 := q.mono s2
      obtain ⟨r, ρ', e, q⟩ := q2
      have e : PL.bnd (PL.opt c.froz) k ρ1 = some (r, ρ') := e
      rw [ef] at e
      exact ⟨r, ρ', e, q⟩
theorem Tat.dat {δ γ : Type} {R' : Rel3 δ γ} {m : Ev} {k : D → M γ} {Q : δ → Hp → Prop} {Q1 : V → Hp → Prop} (h : Tat K ct R' W fr F ρ (PL.bnd (PL.dat m) k) σ Q) (S : Rel K ct fr F H σ ρ)
    (hq : ∀ F1 H1 ρ1 v d, Same F F1 → Rel K ct fr F1 H1 σ ρ1 → Rp K ct.ad F1 v d → Tat K ct R' W fr F1 ρ1 (k d) σ Q → Q1 v H1) : T K ct (RV K ct.ad) W m σ H Q1 := ⟨fr, F, ρ, S, h.datT hq⟩
/-! the derivations weakened -/
section
variable {X : Cx}
theorem _root_.L2.PE.imp {e : Expr} {t t' : TE} (h : PE X e t) (w : ∀ σ H Q, t' σ H Q → t σ H Q) : PE X e t' := ⟨fun pins s σ H Q I q => h.run pins s σ H Q I (w σ H Q q)⟩
theorem _root_.L2.PT.imp {e : Expr} {t t' : TT} (h : PT X e t) (w : ∀ σ H Q, t' σ H Q → t σ H Q) : PT X e t' := ⟨fun pins s σ H Q I q => h.run pins s σ H Q I (w σ H Q q)⟩
theorem _root_.L2.PW.imp {e : Expr} {t t' : TT} (h : PW X e t) (w : ∀ σ H Q, t' σ H Q → t σ H Q) : PW X e t' := ⟨fun wh pins s σ H Q I q => h.run wh pins s σ H Q I (w σ H Q q)⟩
theorem _root_.L2.PTs.imp {es : List Expr} {t t' : TT} (h : PTs X es t) (w : ∀ σ H Q, t' σ H Q → t σ H Q) : PTs X es t' := ⟨fun pins s σ H Q I q => h.run pins s σ H Q I (w σ H Q q)⟩
theorem _root_.L2.PA.imp {es : List Expr} {t t' : TA} (h : PA X es t) (w : ∀ σ H Q, t' σ H Q → t σ H Q) : PA X es t' := ⟨fun pos pins s σ H Q I q => h.run pos pins s σ H Q I (w σ H Q q)⟩
theorem _root_.L2.PS.imp {st : Stmt} {t t' : TS} (h : PS X st t) (w : ∀ D σ H, t' D σ H → t D σ H) : PS X st t' := ⟨fun pins s σ H D I q => h.run pins s σ H D I (w D σ H q)⟩
theorem _root_.L2.PSs.imp {st : List Stmt} {t t' : TS} (h : PSs X st t) (w : ∀ D σ H, t' D σ H → t D σ H) : PSs X st t' := ⟨fun pins s σ H D I q => h.run pins s σ H D I (w D σ H q)⟩
theorem _root_.L2.PG.imp {e : Expr} {t t' : TG} (h : PG X e t) (w : ∀ v σ H Q, t' v σ H Q → t v σ H Q) : PG X e t' := ⟨fun pins s σ H v u Q I r q => h.run pins s σ H v u Q I r (w v σ H Q q)⟩
theorem _root_.L2.PO.imp {e : Option Expr} {t t' : TO} (h : PO X e t) (w : ∀ σ H Q, t' σ H Q → t σ H Q) : PO X e t' := ⟨fun pins s σ H Q I q => h.run pins s σ H Q I (w σ H Q q)⟩
theorem _root_.L2.PI.imp {tg e : Expr} {t t' : TI} (h : PI X tg e t) (w : ∀ σ H Q, t' σ H Q → t σ H Q) : PI X tg e t' := ⟨fun pins s σ H Q I q => h.run pins s σ H Q I (w σ H Q q)⟩
end
/-! ### expressions -/
variable (K ct) in
abbrev TP (W : WX) (m : Ev) : TE := T K ct (RV K ct.ad) W m
variable (K ct) in
abbrev TB (W : WX) (m : M Bool) : TT := T K ct RB W m
variable (K ct) in
abbrev TAr (W : WX) (m : M (List Ar)) : TA := T K ct (RA K ct.ad) W m
def vD (d : D) : Ev := pur (.d d)
/-- a name -/
def evV (i : Nat) : Ev := fun ρ => match ρ[i]? with
  | some (.dat d) => some (.ok (.d d), ρ)
  | _ => none
/-- .. that is data from now on -/
def evF (i : Nat) : Ev := fun ρ => match ρ[i]? with
  | some (.dat d) => some (.ok (.d d), ρ)
  | some (.cel .own c) => (c.froz).map fun d => (.ok (.d d), ρ.set i (.dat d))
  | _ => none
/-- .. that hands over its cell -/
def evM (i : Nat) : Ev := fun ρ => match ρ[i]? with
  | some (.dat d) => some (.ok (.d d), ρ)
  | some (.cel .own c) => some (.ok (.c c), ρ.set i .un)
  | _ => none
section
variable {X : Cx} {a b c : Expr} {fa fb fc : Ev} {pos : Pos}
theorem w_v {i : Nat} {Q : VK} (h : TP K ct W (evV i) σ H Q) : tVar i σ H Q := by
  obtain ⟨fr, F, ρ, S, r, ρ', e, q⟩ := h
  unfold evV at e
  split at e
  · rename_i d hd
    cases e
    obtain ⟨o, h1, v, h2, h3⟩ := S.slot i _ hd
    subst h2
    exact ⟨v, h1, q v F H (Same.refl _) S h3⟩
  · cases e
theorem w_f {i : Nat} {Q : VK} (h : TP K ct W (evF i) σ H Q) : tVar i σ H Q := by
  obtain ⟨fr, F, ρ, S, r, ρ', e, q⟩ := h
  unfold evF at e
  split at e
  · rename_i d hd
    cases e
    obtain ⟨o, h1, v, h2, h3⟩ := S.slot i _ hd
    subst h2
    exact ⟨v, h1, q v F H (Same.refl _) S h3⟩
  · rename_i c hc
    cases ef : c.froz with
    | none => rw [ef] at e; cases e
    | some d =>
      rw [ef] at e
      cases e
      obtain ⟨p, F', h1, s, rp, S'⟩ := S.frz hc rfl ef
      exact ⟨_, h1, q _ F' H s S' rp⟩
  · cases e
theorem Rel.own (S : Rel K ct fr F H σ ρ) {i : Nat} {k : CK} {c : CC} (e : ρ[i]? = some (.cel k c)) (hk : k.isPar = false) : fr.pa i = none := by
  cases z : fr.pa i with
  | none => rfl
  | some q =>
    obtain ⟨k1, c1, h1, h2⟩ := S.pcs i q z
    rw [e] at h1
    cases h1
    rw [hk] at h2
    cases h2
theorem w_m {i : Nat} {Q : VK} (h : TP K ct W (evM i) σ H Q) : tVar i σ H Q := by
  obtain ⟨fr, F, ρ, S, r, ρ', e, q⟩ := h
  unfold evM at e
  split at e
  · rename_i d hd
    cases e
    obtain ⟨o, h1, v, h2, h3⟩ := S.slot i _ hd
    subst h2
    exact ⟨v, h1, q v F H (Same.refl _) S h3⟩
  · rename_i c hc
    cases e
    have np := S.own hc rfl
    obtain ⟨o, h1, p, h2, h3, h4, h5, h6, h7⟩ := S.slot i _ hc
    subst h2
    refine ⟨_, h1, q _ F H (Same.refl _) (S.unR np) ⟨p, rfl, h3, h4, h6 rfl, h7, fun j k c' z1 z2 => ?_⟩⟩
    by_cases w : i = j
    · subst w
      rw [List.getElem?_set_self (List.getElem?_eq_some_iff.mp hc).1] at z1
      cases z1
    · rw [List.getElem?_set_ne w] at z1
      exact w (S.dis i j _ _ _ _ p hc z1 h1 z2)
  · cases e
theorem pp_v (i : Nat) {x : Str} (h : PE X (.Name x pos) (tVar i)) : PE X (.Name x pos) (TP K ct W (evV i)) := h.imp fun _ _ _ => w_v
theorem pp_f (i : Nat) {x : Str} (h : PE X (.Name x pos) (tVar i)) : PE X (.Name x pos) (TP K ct W (evF i)) := h.imp fun _ _ _ => w_f
theorem pp_m (i : Nat) {x : Str} (h : PE X (.Name x pos) (tVar i)) : PE X (.Name x pos) (TP K ct W (evM i)) := h.imp fun _ _ _ => w_m
/-- a value that needs no heap -/
def D.toV : D → Option V
  | .non => some .non | .bl b => some (.bl b) | .int i => some (.int i) | .str s => some (.str s) | _ => none
theorem D.toV_rp {d : D} {v : V} (h : d.toV = some v) : Rp K ct.ad F v d := by
  cases d <;> cases h <;> constructor
theorem w_c {d : D} {v : V} {Q : VK} (hd : d.toV = some v) (h : TP K ct W (vD d) σ H Q) : tC v σ H Q := by
  obtain ⟨fr, F, ρ, S, h⟩ := h
  exact h.ok v F H (Same.refl _) S (D.toV_rp hd)
theorem pp_c {e : Expr} {d : D} {v : V} (h : PE X e (tC v)) (hd : d.toV = some v := by rfl) : PE X e (TP K ct W (vD d)) := h.imp fun _ _ _ => w_c hd
/-- a two-place operation on data -/
def ev2 (g : D → D → Option D) (a b : Ev) : Ev := bnd (dat a) fun x => bnd (dat b) fun y => opt ((g x y).map Rv.d)
def ev2c (g : D → D → Option CC) (a b : Ev) : Ev := bnd (dat a) fun x => bnd (dat b) fun y => opt ((g x y).map Rv.c)
def ev1 (g : D → Option D) (a : Ev) : Ev := bnd (dat a) fun x => opt ((g x).map Rv.d)
variable (K ad) in
def O2 (r : R2) (g : D → D → Option D) : Prop := ∀ {F H : Hp} {x y : V} {d e z : D} {Q : VK}, Same F H → Rp K ad F x d → Rp K ad F y e → g d e = some z → (∀ v, Rp K ad F v z → Q v H) → r x y H Q
variable (K ad) in
def O1 (r : V → Hp → VK → Prop) (g : D → Option D) : Prop := ∀ {F H : Hp} {x : V} {d z : D} {Q : VK}, Same F H → Rp K ad F x d → g d = some z → (∀ v, Rp K ad F v z → Q v H) → r x H Q
variable (K ad) in
/-- .. that makes a new object -/
def O2c (r : R2) (g : D → D → Option CC) : Prop := ∀ {F H : Hp} {x y : V} {d e : D} {z : CC} {Q : VK}, Same F H → Rp K ad F x d → Rp K ad F y e → g d e = some z → (∀ p o, H p = none → (F p = none → CelR K ad F (upd H p o) p z) → Q (.ref p) (upd H p o)) → r x y H Q
theorem map_some {α β : Type} {o : Option α} {f : α → β} {b : β} (h : o.map f = some b) : ∃ a, o = some a ∧ f a = b := by
  cases o with
  | none => cases h
  | some a => exact ⟨a, rfl, Option.some.inj h⟩
theorem w_2 {r : R2} {g : D → D → Option D} (O : O2 K ct.ad r g) {Q : VK} (h : TP K ct W (ev2 g fa fb) σ H Q) : tOp r (TP K ct W fa) (TP K ct W fb) σ H Q := by
  obtain ⟨fr, F, ρ, S, h⟩ := h
  refine h.dat S fun F1 H1 ρ1 v d s1 S1 r1 h => ?_
  refine h.dat S1 fun F2 H2 ρ2 u e s2 S2 r2 h => ?_
  obtain ⟨z, e1, q⟩ := h.opt
  obtain ⟨y, e2, rfl⟩ := map_some e1
  exact O S2.fh (r1.mono s2) r2 e2 fun v rv => q v F2 H2 (Same.refl _) S2 rv
theorem w_2c {r : R2} {g : D → D → Option CC} (O : O2c K ct.ad r g) {Q : VK} (h : TP K ct W (ev2c g fa fb) σ H Q) : tOp r (TP K ct W fa) (TP K ct W fb) σ H Q := by
  obtain ⟨fr, F, ρ, S, h⟩ := h
  refine h.dat S fun F1 H1 ρ1 v d s1 S1 r1 h => ?_
  refine h.dat S1 fun F2 H2 ρ2 u e s2 S2 r2 h => ?_
  obtain ⟨z, e1, q⟩ := h.opt
  obtain ⟨y, e2, rfl⟩ := map_some e1
  exact O S2.fh (r1.mono s2) r2 e2 fun p o hp rc => q _ F2 _ (Same.refl _) (S2.newC hp) ⟨p, rfl, S2.fresh hp (rc (S2.nn hp))⟩
theorem w_1 {r : V → Hp → VK → Prop} {g : D → Option D} (O : O1 K ct.ad r g) {Q : VK} (h : TP K ct W (ev1 g fa) σ H Q) : tUn r (TP K ct W fa) σ H Q := by
  obtain ⟨fr, F, ρ, S, h⟩ := h
  refine h.dat S fun F1 H1 ρ1 v d s1 S1 r1 h => ?_
  obtain ⟨z, e1, q⟩ := h.opt
  obtain ⟨y, e2, rfl⟩ := map_some e1
  exact O S1.fh r1 e2 fun v rv => q v F1 H1 (Same.refl _) S1 rv
theorem pp_2 {op : Operator} {r : R2} {g : D → D → Option D} (ho : OpR X (binaryOp op) r) (O : O2 K ct.ad r g) (ha : PE X a (TP K ct W fa)) (hb : PE X b (TP K ct W fb)) : PE X (.BinOp a op b pos) (TP K ct W (ev2 g fa fb)) := (pe_op ho ha hb).imp fun _ _ _ => w_2 O
theorem pp_2c {op : Operator} {r : R2} {g : D → D → Option CC} (ho : OpR X (binaryOp op) r) (O : O2c K ct.ad r g) (ha : PE X a (TP K ct W fa)) (hb : PE X b (TP K ct W fb)) : PE X (.BinOp a op b pos) (TP K ct W (ev2c g fa fb)) := (pe_op ho ha hb).imp fun _ _ _ => w_2c O
theorem pp_1 {op : UnaryOp} {r : V → Hp → VK → Prop} {g : D → Option D} (ho : UnR X (unaryOp op) r) (O : O1 K ct.ad r g) (ha : PE X a (TP K ct W fa)) : PE X (.UnaryOp op a pos) (TP K ct W (ev1 g fa)) := (pe_un ho ha).imp fun _ _ _ => w_1 O
theorem pp_cmp {op : CmpOp} {r : R2} {g : D → D → Option D} (ho : OpR X (compareOp op) r) (O : O2 K ct.ad r g) (ha : PE X a (TP K ct W fa)) (hb : PE X b (TP K ct W fb)) (hm : behindInMarks op b = false) : PE X (.Compare a [op] [b] pos) (TP K ct W (ev2 g fa fb)) := (pe_cmpR ho ha hb hm).imp fun _ _ _ => w_2 O
/-- tests -/
def tst (a : Ev) : M Bool := bnd (dat a) fun x => match x with | .bl b => pur b | _ => fai
theorem w_t {Q : Bool → Hp → Prop} (h : TB K ct W (tst fa) σ H Q) : tTest (TP K ct W fa) σ H Q := by
  obtain ⟨fr, F, ρ, S, h⟩ := h
  refine h.dat S fun F1 H1 ρ1 v d s1 S1 r1 h => ?_
  cases d with
  | bl b =>
    cases r1
    exact ⟨b, rfl, h.ok b F1 H1 (Same.refl _) S1 rfl⟩
  | _ => obtain ⟨_, _, e, _⟩ := h; cases e
theorem pp_tcmp {op : CmpOp} {r : R2} {g : D → D → Option D} (ho : OpR X (compareOp op) r) (O : O2 K ct.ad r g) (ha : PE X a (TP K ct W fa)) (hb : PE X b (TP K ct W fb)) (hm : behindInMarks op b = false) : PT X (.Compare a [op] [b] pos) (TB K ct W (tst (ev2 g fa fb))) := by
  refine (pt_cmpR ho ha hb hm).imp fun σ H Q h => ?_
  have z := w_t h
  obtain ⟨fr, F, ρ, S, h⟩ := z
  exact w_2 O ⟨fr, F, ρ, S, h⟩
theorem pp_tval {e : Expr} (h : PE X e (TP K ct W fa)) (he : ∀ whole, isTrue e X.env whole = (do let v ← whole; standAt e.pos; holding [v] (truthy v)) := by intro _; rfl) : PT X e (TB K ct W (tst fa)) := (pt_val h he).imp fun _ _ _ => w_t
end
end PL
end
section
namespace PL
open PySem PySem.Spec PyProof.Rows L2
variable {K : PySem.W.Frag} {ad : Cl → Addr} {ct : CT}
variable {fr : Fr} {F F' H H' : Hp} {σ : L2.St} {ρ : List Sl} {W : WX}
/-! ### ints -/
def dAdd : D → D → Option D | .int i, .int j => some (.int (i + j)) | _, _ => none
def dSub : D → D → Option D | .int i, .int j => some (.int (i - j)) | _, _ => none
/-- a product: one factor below 2 ^ 64, or both not beyond a million bits -/
def mulOk (i j : Int) : Prop := (-(2 ^ 64) < i ∧ i < 2 ^ 64) ∨ (-(2 ^ 64) < j ∧ j < 2 ^ 64) ∨ i.natAbs.log2 + j.natAbs.log2 < 1000000
instance (i j : Int) : Decidable (mulOk i j) := by unfold mulOk; infer_instance
def dMul : D → D → Option D | .int i, .int j => if mulOk i j then some (.int (i * j)) else none | _, _ => none
def divOk (j : Int) : Prop := 0 < j ∧ (j < 1073741824 ∨ j.natAbs.log2 < 9000)
instance (j : Int) : Decidable (divOk j) := by unfold divOk; infer_instance
def dDiv : D → D → Option D | .int i, .int j => if divOk j then some (.int (i / j)) else none | _, _ => none
def dDivN : D → D → Option D | .int i, .int j => if j ≠ 0 ∧ j.natAbs.log2 < 9000 then some (.int (i.fdiv j)) else none | _, _ => none
def dMod : D → D → Option D | .int i, .int j => if 0 < j then some (.int (i % j)) else none | _, _ => none
def dPow : D → D → Option D | .int i, .int j => if 0 ≤ j ∧ j ≤ 1000000 ∧ i.natAbs < 2 ^ 64 then some (.int (i ^ j.toNat)) else none | _, _ => none
def dNeg : D → Option D | .int i => some (.int (-i)) | _ => none
def dLt : D → D → Option D | .int i, .int j => some (.bl (decide (i < j))) | _, _ => none
def dLe : D → D → Option D | .int i, .int j => some (.bl (decide (i ≤ j))) | _, _ => none
def dGt : D → D → Option D | .int i, .int j => some (.bl (decide (j < i))) | _, _ => none
def dGe : D → D → Option D | .int i, .int j => some (.bl (decide (j ≤ i))) | _, _ => none
theorem o_0 {g : Int → Int → V} {gd : Int → Int → D} {G : D → D → Option D} (hg : ∀ d e z, G d e = some z → ∃ i j, d = .int i ∧ e = .int j ∧ z = gd i j) (hv : ∀ i j, (gd i j).toV = some (g i j)) : O2 K ct.ad (rI0 g) G := by
  intro F H x y d e z Q s r1 r2 e1 q
  obtain ⟨i, j, rfl, rfl, rfl⟩ := hg d e z e1
  cases r1
  cases r2
  exact ⟨i, j, rfl, rfl, q _ (D.toV_rp (hv i j))⟩
theorem o_add : O2 K ct.ad (rI0 fun i j => .int (i + j)) dAdd := o_0 (gd := fun i j => .int (i + j)) (fun d e z h => by
  cases d <;> cases e <;> cases h
  exact ⟨_, _, rfl, rfl, rfl⟩) (fun _ _ => rfl)
theorem o_sub : O2 K ct.ad (rI0 fun i j => .int (i - j)) dSub := o_0 (gd := fun i j => .int (i - j)) (fun d e z h => by
  cases d <;> cases e <;> cases h
  exact ⟨_, _, rfl, rfl, rfl⟩) (fun _ _ => rfl)
theorem o_lt : O2 K ct.ad (rI0 fun i j => .bl (decide (i < j))) dLt := o_0 (gd := fun i j => .bl (decide (i < j))) (fun d e z h => by
  cases d <;> cases e <;> cases h
  exact ⟨_, _, rfl, rfl, rfl⟩) (fun _ _ => rfl)
theorem o_le : O2 K ct.ad (rI0 fun i j => .bl (decide (i ≤ j))) dLe := o_0 (gd := fun i j => .bl (decide (i ≤ j))) (fun d e z h => by
  cases d <;> cases e <;> cases h
  exact ⟨_, _, rfl, rfl, rfl⟩) (fun _ _ => rfl)
theorem o_gt : O2 K ct.ad (rI0 fun i j => .bl (decide (j < i))) dGt := o_0 (gd := fun i j => .bl (decide (j < i))) (fun d e z h => by
  cases d <;> cases e <;> cases h
  exact ⟨_, _, rfl, rfl, rfl⟩) (fun _ _ => rfl)
theorem o_ge : O2 K ct.ad (rI0 fun i j => .bl (decide (j ≤ i))) dGe := o_0 (gd := fun i j => .bl (decide (j ≤ i))) (fun d e z h => by
  cases d <;> cases e <;> cases h
  exact ⟨_, _, rfl, rfl, rfl⟩) (fun _ _ => rfl)
/-- a product, either way -/
def rMulB : R2 := fun x y H Q => ∃ i j, x = .int i ∧ y = .int j ∧ mulOk i j ∧ Q (.int (i * j)) H
theorem op_mulB {X : Cx} : OpR X (binaryOp .Mult) rMulB := by
  intro pins s σ H x y v u Q I rx ry ⟨i, j, ex, ey, hc, q⟩
  rcases hc with hc | hc | hc
  · exact op_mul pins s σ H x y v u Q I rx ry ⟨i, j, ex, ey, .inl hc, q⟩
  · exact op_mul pins s σ H x y v u Q I rx ry ⟨i, j, ex, ey, .inr hc, q⟩
  · exact op_mulW pins s σ H x y v u Q I rx ry ⟨i, j, ex, ey, hc, q⟩
def rDivB : R2 := fun x y H Q => ∃ i j, x = .int i ∧ y = .int j ∧ divOk j ∧ Q (.int (i / j)) H
theorem op_divB {X : Cx} : OpR X (binaryOp .FloorDiv) rDivB := by
  intro pins s σ H x y v u Q I rx ry ⟨i, j, ex, ey, ⟨h0, hc⟩, q⟩
  rcases hc with hc | hc
  · exact op_fdiv pins s σ H x y v u Q I rx ry ⟨i, j, ex, ey, ⟨h0, hc⟩, q⟩
  · exact op_fdivW pins s σ H x y v u Q I rx ry ⟨i, j, ex, ey, ⟨h0, hc⟩, q⟩
def rDivN : R2 := fun x y H Q => ∃ i j, x = .int i ∧ y = .int j ∧ (j ≠ 0 ∧ j.natAbs.log2 < 9000) ∧ Q (.int (i.fdiv j)) H
theorem op_divN {X : Cx} : OpR X (binaryOp .FloorDiv) rDivN := opI fun i j _ _ _ _ _ hc q => floordiv_int hc.1 q (.inl (PyProof.noPylong_of_log2 hc.2))
theorem o_mul : O2 K ct.ad rMulB dMul := by
  intro F H x y d e z Q s r1 r2 e1 q
  cases d <;> cases e <;> try cases e1
  rename_i i j
  cases r1; cases r2
  have e1 : (if mulOk i j then some (D.int (i * j)) else none) = some z := e1
  split at e1
  · rename_i h
    cases e1
    exact ⟨i, j, rfl, rfl, h, q _ (.int _)⟩
  · cases e1
theorem o_div : O2 K ct.ad rDivB dDiv := by
  intro F H x y d e z Q s r1 r2 e1 q
  cases d <;> cases e <;> try cases e1
  rename_i i j
  cases r1; cases r2
  have e1 : (if divOk j then some (D.int (i / j)) else none) = some z := e1
  split at e1
  · rename_i h
    cases e1
    exact ⟨i, j, rfl, rfl, h, q _ (.int _)⟩
  · cases e1
theorem o_divN : O2 K ct.ad rDivN dDivN := by
  intro F H x y d e z Q s r1 r2 e1 q
  cases d <;> cases e <;> try cases e1
  rename_i i j
  cases r1; cases r2
  have e1 : (if j ≠ 0 ∧ j.natAbs.log2 < 9000 then some (D.int (i.fdiv j)) else none) = some z := e1
  split at e1
  · rename_i h
    cases e1
    exact ⟨i, j, rfl, rfl, h, q _ (.int _)⟩
  · cases e1
theorem o_mod : O2 K ct.ad (rI (fun _ j => 0 < j) fun i j => .int (i % j)) dMod := by
  intro F H x y d e z Q s r1 r2 e1 q
  cases d <;> cases e <;> try cases e1
  rename_i i j
  cases r1; cases r2
  have e1 : (if 0 < j then some (D.int (i % j)) else none) = some z := e1
  split at e1
  · rename_i h
    cases e1
    exact ⟨i, j, rfl, rfl, h, q _ (.int _)⟩
  · cases e1
theorem o_pow : O2 K ct.ad (rI CPow fun i j => .int (i ^ j.toNat)) dPow := by
  intro F H x y d e z Q s r1 r2 e1 q
  cases d <;> cases e <;> try cases e1
  rename_i i j
  cases r1; cases r2
  have e1 : (if 0 ≤ j ∧ j ≤ 1000000 ∧ i.natAbs < 2 ^ 64 then some (D.int (i ^ j.toNat)) else none) = some z := e1
  split at e1
  · rename_i h
    cases e1
    exact ⟨i, j, rfl, rfl, h, q _ (.int _)⟩
  · cases e1
theorem o_neg : O1 K ct.ad (rU fun i => .int (-i)) dNeg := by
  intro F H x d z Q s r e q
  cases d <;> cases e
  cases r
  exact ⟨_, rfl, q _ (.int _)⟩
/-! ### texts, lists, tuples -/
def dAddS : D → D → Option D | .str s, .str t => if s.length + t.length ≤ 16777216 then some (.str (s ++ t)) else none | _, _ => none
def rAddS : R2 := fun x y H Q => ∃ i j, x = .str i ∧ y = .str j ∧ i.length + j.length ≤ sizeLine ∧ Q (.str (i ++ j)) H
theorem op_addSS {X : Cx} : OpR X (binaryOp .Add) rAddS := op_add_str
theorem o_addS : O2 K ct.ad rAddS dAddS := by
  intro F H x y d e z Q s r1 r2 e1 q
  cases d <;> cases e <;> try cases e1
  rename_i i j
  cases r1; cases r2
  have e1 : (if i.length + j.length ≤ 16777216 then some (D.str (i ++ j)) else none) = some z := e1
  split at e1
  · rename_i h
    cases e1
    exact ⟨i, j, rfl, rfl, h, q _ (.str _)⟩
  · cases e1
def cCat : D → D → Option CC | .lst xs, .lst ys => if xs.length + ys.length ≤ 16777216 then some (.lst (xs ++ ys)) else none | _, _ => none
theorem o_cat : O2c K ct.ad rCat cCat := by
  intro F H x y d e z Q s r1 r2 e1 q
  cases d <;> cases e <;> try cases e1
  rename_i xs ys
  cases r1 with
  | lst h1 k1 =>
    cases r2 with
    | lst h2 k2 =>
      have e1 : (if xs.length + ys.length ≤ 16777216 then some (CC.lst (xs ++ ys)) else none) = some z := e1
      split at e1
      · rename_i h
        cases e1
        exact ⟨_, _, _, _, rfl, rfl, s _ _ h1, s _ _ h2, by rw [k1.len, k2.len]; exact h, fun p hp => q p _ hp fun _ => ⟨_, upd_same, k1.app k2⟩⟩
      · cases e1
def rep {α : Type} (n : Nat) (xs : List α) : List α := (List.replicate n xs).flatten
def cRep : D → D → Option CC | .lst xs, .int k => if -(2 ^ 63) ≤ k ∧ k < 2 ^ 63 ∧ xs.length * k.toNat ≤ 16777216 then some (.lst (rep k.toNat xs)) else none | _, _ => none
def dCatT : D → D → Option D | .tup xs, .tup ys => if xs.length + ys.length ≤ 16777216 then some (.tup (xs ++ ys)) else none | _, _ => none
/-! ### comparisons of data -/
mutual
def D.py : D → Option PyData
  | .non => some .none | .bl b => some (.bool b) | .int i => some (.int i) | .str s => some (.str s)
  | .tup xs => (D.pys xs).map PyData.tuple | .lst xs => (D.pys xs).map PyData.list | .sq xs => (D.pys xs).map PyData.list
  | _ => none
def D.pys : List D → Option (List PyData)
  | [] => some []
  | x :: xs => match D.py x, D.pys xs with | some a, some b => some (a :: b) | _, _ => none
end
mutual
theorem Rp.dp {F H : Hp} (s : Same F H) : ∀ {d : D} {v : V} {e : PyData}, Rp K ct.ad F v d → d.py = some e → Dp K H v e
  | .non, _, _, h, q => by cases h; cases q; exact .non
  | .bl _, _, _, h, q => by cases h; cases q; exact .bl _
  | .int _, _, _, h, q => by cases h; cases q; exact .int _
  | .str _, _, _, h, q => by cases h; cases q; exact .str _
  | .tup xs, _, _, h, q => by
    cases h with
    | tup h r =>
      rw [D.py] at q
      obtain ⟨a, e1, rfl⟩ := map_some q
      exact .tup (sameT s h) (Rps.dp s r e1)
  | .lst xs, _, _, h, q => by
    cases h with
    | lst h r =>
      rw [D.py] at q
      obtain ⟨a, e1, rfl⟩ := map_some q
      exact .lst (SqL.of (s _ _ h)) (Rps.dp s r e1)
  | .sq xs, _, _, h, q => by
    cases h with
    | sq h r =>
      rw [D.py] at q
      obtain ⟨a, e1, rfl⟩ := map_some q
      exact .lst (s.seq h) (Rps.dp s r e1)
  | .obj _ _, _, _, _, q => by simp [D.py] at q
  | .cl _, _, _, _, q => by simp [D.py] at q
  | .dK _ _, _, _, _, q => by simp [D.py] at q
  | .dT _ _, _, _, _, q => by simp [D.py] at q
theorem Rps.dp {F H : Hp} (s : Same F H) : ∀ {ds : List D} {vs : List V} {es : List PyData}, Rps K ct.ad F vs ds → D.pys ds = some es → DpAll K H vs es
  | [], _, _, h, q => by cases h; rw [D.pys] at q; cases q; exact .nil
  | d :: ds, _, _, h, q => by
    cases h with
    | cons h t =>
      rw [D.pys] at q
      split at q
      · rename_i a b e1 e2
        cases q
        exact .cons (Rp.dp s h e1) (Rps.dp s t e2)
      · cases q
end
/-- == as Python has it, of data of one kind -/
def D.eq? : D → D → Option Bool
  | .non, .non => some true | .non, .int _ => some false | .int _, .non => some false | .non, .bl _ => some false | .bl _, .non => some false | .non, .str _ => some false | .str _, .non => some false
  | .int i, .int j => some (decide (i = j)) | .bl b, .bl c => some (b == c) | .str s, .str t => some (decide (s = t))
  | .int _, .str _ => some false | .str _, .int _ => some false | .bl _, .str _ => some false | .str _, .bl _ => some false
  | d, e => match d.py, e.py with
    | some x, some y => if SeqAt.shaped x && SeqAt.shaped y then some (PyData.eqv x y) else none
    | _, _ => none
def dEq (d e : D) : Option D := (d.eq? e).map .bl
def dNe (d e : D) : Option D := (d.eq? e).map fun b => .bl (!b)
def rEqB (K : PySem.W.Frag) : R2 := fun x y H Q => rEq x y H Q ∨ rEqD K x y H Q
def rNeB (K : PySem.W.Frag) : R2 := fun x y H Q => rNe x y H Q ∨ rNeD K x y H Q
theorem op_eqB {X : Cx} (hu : X.A.units + 64 < cLine) : OpR X (compareOp .Eq) (rEqB X.K) := fun pins s σ H x y v u Q I rx ry h => h.elim (op_eq pins s σ H x y v u Q I rx ry) (op_eqD hu pins s σ H x y v u Q I rx ry)
theorem op_neB {X : Cx} (hu : X.A.units + 64 < cLine) : OpR X (compareOp .NotEq) (rNeB X.K) := fun pins s σ H x y v u Q I rx ry h => h.elim (op_ne pins s σ H x y v u Q I rx ry) (op_neD hu pins s σ H x y v u Q I rx ry)
/-- how two equal or unequal data lie -/
theorem eq_cases {F H : Hp} {x y : V} {d e : D} {b : Bool} (s : Same F H) (r1 : Rp K ct.ad F x d) (r2 : Rp K ct.ad F y e) (h : d.eq? e = some b) :
    (scal x y = true ∧ decide (x = y) = b) ∨ ∃ p q, Dp K H x p ∧ Dp K H y q ∧ SeqAt.shaped p = true ∧ SeqAt.shaped q = true ∧ PyData.eqv p q = b := by
  have deep : ∀ (h : (match d.py, e.py with | some x, some y => if SeqAt.shaped x && SeqAt.shaped y then some (PyData.eqv x y) else none | _, _ => none) = some b),
      ∃ p q, Dp K H x p ∧ Dp K H y q ∧ SeqAt.shaped p = true ∧ SeqAt.shaped q = true ∧ PyData.eqv p q = b := fun h => by
    split at h
    · rename_i p q e1 e2
      split at h
      · rename_i c
        rw [Bool.and_eq_true] at c
        cases h
        exact ⟨p, q, r1.dp s e1, r2.dp s e2, c.1, c.2, rfl⟩
      · cases h
    · cases h
  cases d <;> cases e <;> first
    | exact .inr (deep h)
    | (cases r1; cases r2; cases h; exact .inl ⟨rfl, by first | rfl | simp | (rename_i p q; cases p <;> cases q <;> rfl)⟩)
theorem o_eq : O2 K ct.ad (rEqB K) dEq := by
  intro F H x y d e z Q s r1 r2 e1 q
  obtain ⟨b, h, rfl⟩ := map_some e1
  rcases eq_cases s r1 r2 h with ⟨h1, h2⟩ | ⟨p, p', h1, h2, h3, h4, h5⟩
  · exact .inl ⟨h1, by rw [h2]; exact q _ (.bl b)⟩
  · exact .inr ⟨p, p', h1, h2, h3, h4, by rw [h5]; exact q _ (.bl b)⟩
theorem o_ne : O2 K ct.ad (rNeB K) dNe := by
  intro F H x y d e z Q s r1 r2 e1 q
  obtain ⟨b, h, rfl⟩ := map_some e1
  rcases eq_cases s r1 r2 h with ⟨h1, h2⟩ | ⟨p, p', h1, h2, h3, h4, h5⟩
  · exact .inl ⟨h1, by rw [h2]; exact q _ (.bl _)⟩
  · exact .inr ⟨p, p', h1, h2, h3, h4, by rw [h5]; exact q _ (.bl _)⟩
/-- is None, is not None -/
def D.isN : D → Bool | .non => true | _ => false
def dIs : D → D → Option D | d, .non => some (.bl d.isN) | _, _ => none
def dIsNot : D → D → Option D | d, .non => some (.bl (!d.isN)) | _, _ => none
def rIsN : R2 := fun y z H Q => z = .non ∧ Q (.bl (decide (y = .non))) H
def rNotN : R2 := fun y z H Q => z = .non ∧ Q (.bl (!decide (y = .non))) H
theorem op_isNN {X : Cx} : OpR X (compareOp .Is) rIsN := op_isN
theorem op_notNN {X : Cx} : OpR X (compareOp .IsNot) rNotN := op_notN
theorem Rp.isN {F : Hp} {v : V} {d : D} (r : Rp K ct.ad F v d) : decide (v = .non) = d.isN := by cases r <;> rfl
theorem o_is : O2 K ct.ad rIsN dIs := by
  intro F H x y d e z Q s r1 r2 e1 q
  cases e <;> cases e1
  cases r2
  exact ⟨rfl, by rw [r1.isN]; exact q _ (.bl _)⟩
theorem o_isNot : O2 K ct.ad rNotN dIsNot := by
  intro F H x y d e z Q s r1 r2 e1 q
  cases e <;> cases e1
  cases r2
  exact ⟨rfl, by rw [r1.isN]; exact q _ (.bl _)⟩
/-! ### and, or, not, conditional -/
section
variable {X : Cx} {a b c d : Expr} {fa fb fc fd : Ev} {ta tb : M Bool} {pos : Pos}
def tNo (t : M Bool) : M Bool := bnd t fun b => pur (!b)
def tAn (t u : M Bool) : M Bool := bnd t fun b => if b then u else pur false
def tOo (t u : M Bool) : M Bool := bnd t fun b => if b then pur true else u
theorem w_no {Q : Bool → Hp → Prop} (h : TB K ct W (tNo ta) σ H Q) : tNot (TB K ct W ta) σ H Q := by
  obtain ⟨fr, F, ρ, S, h⟩ := h
  exact h.bnd S fun F1 H1 ρ1 v d s1 S1 r1 h => h.ok _ F1 H1 (Same.refl _) S1 (by cases r1; rfl)
theorem w_an {Q : Bool → Hp → Prop} (h : TB K ct W (tAn ta tb) σ H Q) : tAnd (TB K ct W ta) (TB K ct W tb) σ H Q := by
  obtain ⟨fr, F, ρ, S, h⟩ := h
  refine h.bnd S fun F1 H1 ρ1 v d s1 S1 r1 h => ?_
  cases r1
  cases v with
  | true => exact h.to S1
  | false => exact h.ok _ F1 H1 (Same.refl _) S1 rfl
theorem w_oo {Q : Bool → Hp → Prop} (h : TB K ct W (tOo ta tb) σ H Q) : tOr (TB K ct W ta) (TB K ct W tb) σ H Q := by
  obtain ⟨fr, F, ρ, S, h⟩ := h
  refine h.bnd S fun F1 H1 ρ1 v d s1 S1 r1 h => ?_
  cases r1
  cases v with
  | false => exact h.to S1
  | true => exact h.ok _ F1 H1 (Same.refl _) S1 rfl
theorem pp_tno (h : PT X a (TB K ct W ta)) : PT X (.UnaryOp .Not a pos) (TB K ct W (tNo ta)) := (pt_not h).imp fun _ _ _ => w_no
theorem pp_wan {rest : List Expr} (ha : PT X a (TB K ct W ta)) (hb : PW X (.BoolOp .And (b :: rest) pos) (TB K ct W tb)) : PW X (.BoolOp .And (a :: b :: rest) pos) (TB K ct W (tAn ta tb)) := (pw_and ha hb).imp fun _ _ _ => w_an
theorem pp_woo {rest : List Expr} (ha : PT X a (TB K ct W ta)) (hb : PW X (.BoolOp .Or (b :: rest) pos) (TB K ct W tb)) : PW X (.BoolOp .Or (a :: b :: rest) pos) (TB K ct W (tOo ta tb)) := (pw_or ha hb).imp fun _ _ _ => w_oo
/-- .. as values -/
def vNo (m : Ev) : Ev := bnd (tst m) fun b => vD (.bl (!b))
def vAn (m n : Ev) : Ev := bnd (tst m) fun b => if b then bnd (dat n) vD else vD (.bl false)
def vOo (m n : Ev) : Ev := bnd (tst m) fun b => if b then vD (.bl true) else bnd (dat n) vD
def vIf (t : M Bool) (m n : Ev) : Ev := bnd t fun b => if b then m else n
theorem Tat.tstT {δ γ : Type} {R' : Rel3 δ γ} {m : Ev} {k : Bool → M γ} {Q : δ → Hp → Prop} {Q1 : V → Hp → Prop} (h : Tat K ct R' W fr F ρ (PL.bnd (PL.tst m) k) σ Q)
    (hq : ∀ F1 H1 ρ1 b, Same F F1 → Rel K ct fr F1 H1 σ ρ1 → Tat K ct R' W fr F1 ρ1 (k b) σ Q → Q1 (.bl b) H1) : Tat K ct (RV K ct.ad) W fr F ρ m σ Q1 := by
  have e : PL.bnd (PL.tst m) k = PL.bnd (PL.dat m) fun x => match x with | .bl b => k b | _ => fai := by
    funext ρ
    unfold PL.tst PL.bnd
    cases em : PL.dat m ρ with
    | none => rfl
    | some x =>
      obtain ⟨r1, ρ1⟩ := x
      cases r1 with
      | ok a => cases a <;> rfl
      | er c pl => rfl
  rw [e] at h
  refine h.datT fun F1 H1 ρ1 v d s1 S1 r1 h => ?_
  cases d with
  | bl b =>
    cases r1
    exact hq F1 H1 ρ1 b s1 S1 h
  | _ => obtain ⟨_, _, e, _⟩ := h; cases e
theorem Tat.tst {δ γ : Type} {R' : Rel3 δ γ} {m : Ev} {k : Bool → M γ} {Q : δ → Hp → Prop} {Q1 : V → Hp → Prop} (h : Tat K ct R' W fr F ρ (PL.bnd (PL.tst m) k) σ Q) (S : Rel K ct fr F H σ ρ)
    (hq : ∀ F1 H1 ρ1 b, Same F F1 → Rel K ct fr F1 H1 σ ρ1 → Tat K ct R' W fr F1 ρ1 (k b) σ Q → Q1 (.bl b) H1) : T K ct (RV K ct.ad) W m σ H Q1 := ⟨fr, F, ρ, S, h.tstT hq⟩
theorem w_vno {Q : VK} (h : TP K ct W (vNo fa) σ H Q) : tNotV (TP K ct W fa) σ H Q := by
  obtain ⟨fr, F, ρ, S, h⟩ := h
  exact h.tst S fun F1 H1 ρ1 b s1 S1 h => ⟨b, rfl, h.ok _ F1 H1 (Same.refl _) S1 (Rp.bl _)⟩
theorem w_van {Q : VK} (h : TP K ct W (vAn fa fb) σ H Q) : tAndV (TP K ct W fa) (TP K ct W fb) σ H Q := by
  obtain ⟨fr, F, ρ, S, h⟩ := h
  refine h.tst S fun F1 H1 ρ1 b s1 S1 h => ⟨b, rfl, ?_⟩
  cases b with
  | true =>
    rw [if_pos rfl]
    have h : Tat K ct (RV K ct.ad) W fr F1 ρ1 (bnd (dat fb) vD) σ Q := h
    exact h.dat S1 fun F2 H2 ρ2 v d s2 S2 r2 h => h.ok _ F2 H2 (Same.refl _) S2 r2
  | false =>
    (rw [if_neg Bool.false_ne_true])
    exact Tat.ok (a := Rv.d (.bl false)) h _ F1 H1 (Same.refl _) S1 (Rp.bl _)
theorem w_voo {Q : VK} (h : TP K ct W (vOo fa fb) σ H Q) : tOrV (TP K ct W fa) (TP K ct W fb) σ H Q := by
  obtain ⟨fr, F, ρ, S, h⟩ := h
  refine h.tst S fun F1 H1 ρ1 b s1 S1 h => ⟨b, rfl, ?_⟩
  cases b with
  | false =>
    (rw [if_neg Bool.false_ne_true])
    have h : Tat K ct (RV K ct.ad) W fr F1 ρ1 (bnd (dat fb) vD) σ Q := h
    exact h.dat S1 fun F2 H2 ρ2 v d s2 S2 r2 h => h.ok _ F2 H2 (Same.refl _) S2 r2
  | true =>
    rw [if_pos rfl]
    exact Tat.ok (a := Rv.d (.bl true)) h _ F1 H1 (Same.refl _) S1 (Rp.bl _)
theorem w_vif {Q : VK} (h : TP K ct W (vIf ta fa fb) σ H Q) : tIf (TB K ct W ta) (TP K ct W fa) (TP K ct W fb) σ H Q := by
  obtain ⟨fr, F, ρ, S, h⟩ := h
  refine h.bnd S fun F1 H1 ρ1 v b s1 S1 r1 h => ?_
  cases r1
  cases v with
  | true => rw [if_pos rfl]; exact h.to S1
  | false => rw [if_neg Bool.false_ne_true]; exact h.to S1
theorem pp_vno (h : PE X a (TP K ct W fa)) : PE X (.UnaryOp .Not a pos) (TP K ct W (vNo fa)) := (pe_not h).imp fun _ _ _ => w_vno
theorem pp_van {rest : List Expr} (ha : PE X a (TP K ct W fa)) (hb : PE X (.BoolOp .And (b :: rest) pos) (TP K ct W fb)) : PE X (.BoolOp .And (a :: b :: rest) pos) (TP K ct W (vAn fa fb)) := (pe_and ha hb).imp fun _ _ _ => w_van
theorem pp_voo {rest : List Expr} (ha : PE X a (TP K ct W fa)) (hb : PE X (.BoolOp .Or (b :: rest) pos) (TP K ct W fb)) : PE X (.BoolOp .Or (a :: b :: rest) pos) (TP K ct W (vOo fa fb)) := (pe_or ha hb).imp fun _ _ _ => w_voo
theorem pp_vif (hc : PT X c (TB K ct W ta)) (ha : PE X a (TP K ct W fa)) (hb : PE X b (TP K ct W fb)) : PE X (.IfExp c a b pos) (TP K ct W (vIf ta fa fb)) := (pe_ifExp hc ha hb).imp fun _ _ _ => w_vif
/-! a op b op' c -/
def ch2 (g g' : D → D → Option D) (a b c : Ev) : Ev := bnd (dat a) fun x => bnd (dat b) fun y => bnd (opt (g x y)) fun z => match z with
  | .bl true => bnd (dat c) fun u => opt ((g' y u).map Rv.d)
  | .bl false => vD (.bl false)
  | _ => fai
theorem Tat.optL {δ γ α : Type} {R' : Rel3 δ γ} {o : Option α} {k : α → M γ} {Q : δ → Hp → Prop} (h : Tat K ct R' W fr F ρ (PL.bnd (PL.opt o) k) σ Q) : ∃ z, o = some z ∧ Tat K ct R' W fr F ρ (k z) σ Q := by
  cases o with
  | none => obtain ⟨_, _, e, _⟩ := h; cases e
  | some z => exact ⟨z, rfl, h⟩
theorem Tat.optb {δ γ : Type} {R' : Rel3 δ γ} {o : Option D} {k : D → M γ} {Q : δ → Hp → Prop} (h : Tat K ct R' W fr F ρ (PL.bnd (PL.opt o) k) σ Q) : ∃ z, o = some z ∧ Tat K ct R' W fr F ρ (k z) σ Q := by
  cases o with
  | none => obtain ⟨_, _, e, _⟩ := h; cases e
  | some z => exact ⟨z, rfl, h⟩
theorem w_ch2 {r r' : R2} {g g' : D → D → Option D} (O : O2 K ct.ad r g) (O' : O2 K ct.ad r' g') {Q : VK} (h : TP K ct W (ch2 g g' fa fb fc) σ H Q) : tChain r r' (TP K ct W fa) (TP K ct W fb) (TP K ct W fc) σ H Q := by
  obtain ⟨fr, F, ρ, S, h⟩ := h
  refine h.dat S fun F1 H1 ρ1 v d s1 S1 r1 h => ?_
  refine h.dat S1 fun F2 H2 ρ2 u e s2 S2 r2 h => ?_
  obtain ⟨z, e1, h⟩ := h.optb
  refine O S2.fh (r1.mono s2) r2 e1 fun w rw_ => ?_
  cases z with
  | bl k =>
    cases rw_
    refine ⟨k, rfl, ?_⟩
    cases k with
    | false =>
      (rw [if_neg Bool.false_ne_true])
      exact Tat.ok (a := Rv.d (.bl false)) h _ F2 H2 (Same.refl _) S2 (Rp.bl _)
    | true =>
      rw [if_pos rfl]
      refine Tat.dat (k := fun w => opt ((g' e w).map Rv.d)) h S2 fun F3 H3 ρ3 v3 d3 s3 S3 r3 h => ?_
      obtain ⟨y, e3, q⟩ := h.opt
      obtain ⟨y', e4, rfl⟩ := map_some e3
      exact O' S3.fh (r2.mono s3) r3 e4 fun w' rw' => q w' F3 H3 (Same.refl _) S3 rw'
  | _ => obtain ⟨_, _, e, _⟩ := h; cases e
theorem pp_ch2 {op op' : CmpOp} {r r' : R2} {g g' : D → D → Option D} (ho : OpR X (compareOp op) r) (ho' : OpR X (compareOp op') r') (O : O2 K ct.ad r g) (O' : O2 K ct.ad r' g') (ha : PE X a (TP K ct W fa)) (hb : PE X b (TP K ct W fb)) (hc : PE X c (TP K ct W fc))
    (hm : lastMarks [op, op'] [b, c] = false := by with_unfolding_all rfl) : PE X (.Compare a [op, op'] [b, c] pos) (TP K ct W (ch2 g g' fa fb fc)) := (pe_chain ho ho' ha hb hc hm).imp fun _ _ _ => w_ch2 O O'
theorem pp_tch2 {op op' : CmpOp} {r r' : R2} {g g' : D → D → Option D} (ho : OpR X (compareOp op) r) (ho' : OpR X (compareOp op') r') (O : O2 K ct.ad r g) (O' : O2 K ct.ad r' g') (ha : PE X a (TP K ct W fa)) (hb : PE X b (TP K ct W fb)) (hc : PE X c (TP K ct W fc))
    (hm : lastMarks [op, op'] [b, c] = false := by with_unfolding_all rfl) : PT X (.Compare a [op, op'] [b, c] pos) (TB K ct W (tst (ch2 g g' fa fb fc))) := by
  refine (pt_chain ho ho' ha hb hc hm).imp fun σ H Q h => ?_
  exact w_ch2 O O' (w_t h)
end
end PL
end
section
namespace PL
open PySem PySem.Spec PyProof.Rows L2
variable {K : PySem.W.Frag} {ad : Cl → Addr} {ct : CT}
variable {fr : Fr} {F F' H H' : Hp} {σ : L2.St} {ρ : List Sl} {W : WX}
theorem o_rep : O2c K ct.ad rRep cRep := by
  intro F H x y d e z Q s r1 r2 e1 q
  cases d <;> cases e <;> try cases e1
  rename_i xs k
  cases r1 with
  | lst h1 k1 =>
    cases r2
    have e1 : (if -(2 ^ 63) ≤ k ∧ k < 2 ^ 63 ∧ xs.length * k.toNat ≤ 16777216 then some (CC.lst (rep k.toNat xs)) else none) = some z := e1
    split at e1
    · rename_i h
      cases e1
      refine ⟨_, _, _, rfl, rfl, s _ _ h1, h.1, h.2.1, by rw [k1.len]; exact h.2.2, fun p hp => q p _ hp fun _ => ⟨_, upd_same, ?_⟩⟩
      unfold rep
      generalize k.toNat = n
      induction n with
      | zero => exact .nil
      | succ n ih => rw [List.replicate_succ, List.replicate_succ, List.flatten_cons, List.flatten_cons]; exact k1.app ih
    · cases e1
/-- a tuple's sum -/
def rCatD (K : PySem.W.Frag) : R2 := rCatA K
/-- a result that may be new data -/
theorem w_2d {r : R2} {g : D → D → Option D} {fa fb : Ev} {Q : VK} (O : ∀ {F H : Hp} {x y : V} {d e z : D} {Q : VK}, Same F H → Rp K ct.ad F x d → Rp K ct.ad F y e → g d e = some z → (∀ v, Rp K ct.ad F v z → Q v H) → (∀ p vs ds, z = .tup ds → Rps K ct.ad F vs ds → H p = none → Q (.ref p) (upd H p (.tup vs))) → r x y H Q)
    (h : TP K ct W (ev2 g fa fb) σ H Q) : tOp r (TP K ct W fa) (TP K ct W fb) σ H Q := by
  obtain ⟨fr, F, ρ, S, h⟩ := h
  refine h.dat S fun F1 H1 ρ1 v d s1 S1 r1 h => ?_
  refine h.dat S1 fun F2 H2 ρ2 u e s2 S2 r2 h => ?_
  obtain ⟨z, e1, q⟩ := h.opt
  obtain ⟨y, e2, rfl⟩ := map_some e1
  refine O S2.fh (r1.mono s2) r2 e2 (fun v rv => q v F2 H2 (Same.refl _) S2 rv) fun p vs ds ez rs hp => ?_
  subst ez
  exact q _ (upd F2 p (.tup vs)) _ (same_up (S2.nn hp)) (S2.newD hp) (Rp.tup (SqT.of upd_same) (rs.mono (same_up (S2.nn hp))))
theorem pp_catT {X : Cx} {a b : Expr} {fa fb : Ev} {pos : Pos} (eK : X.K = K) (ha : PE X a (TP K ct W fa)) (hb : PE X b (TP K ct W fb)) : PE X (.BinOp a .Add b pos) (TP K ct W (ev2 dCatT fa fb)) := by
  subst eK
  refine (pe_op op_catA ha hb).imp fun σ H Q => w_2d fun {F H x y d e z Q} s r1 r2 e1 q q2 => ?_
  cases d <;> cases e <;> try cases e1
  rename_i xs ys
  cases r1 with
  | tup h1 k1 =>
    cases r2 with
    | tup h2 k2 =>
      have e1 : (if xs.length + ys.length ≤ 16777216 then some (D.tup (xs ++ ys)) else none) = some z := e1
      split at e1
      · rename_i h
        cases e1
        refine ⟨_, _, _, _, rfl, rfl, sameT s h1, sameT s h2, by rw [k1.len, k2.len]; exact h, fun e => ?_, fun _ e => ?_, fun _ _ p hp => q2 p _ _ rfl (k1.app k2) hp⟩
        · subst e
          cases k1
          exact q _ (.tup h2 k2)
        · subst e
          cases k2
          rw [List.append_nil] at q
          exact q _ (.tup h1 k1)
      · cases e1
/-! ### fields -/
theorem look_zip {f : Str} : ∀ {ks : List Str} {vs : List V} {i : Nat}, ks.length = vs.length → ks.findIdx? (fun k => f == k) = some i → (ks.zip vs).lookup f = vs[i]?
  | [], _, _, _, h =>
    by simp at h
  | k :: ks, [], _, l, _ => by simp at l
  | k :: ks, v :: vs, i, l, h => by
    rw [List.zip_cons_cons, List.lookup_cons]
    rw [List.findIdx?_cons] at h
    cases e : f == k with
    | true =>
      rw [e] at h
      cases h
      rfl
    | false =>
      rw [e] at h
      have h : Option.map (fun i => i + 1) (ks.findIdx? (fun k => f == k)) = some i := h
      obtain ⟨j, h1, rfl⟩ := map_some h
      rw [look_zip (by simpa using l) h1]
      rfl
theorem look_no {f : Str} : ∀ {ks : List Str} {vs : List V}, ks.findIdx? (fun k => f == k) = none → (ks.zip vs).lookup f = none
  | [], _, _ => by simp
  | k :: ks, [], _ => by simp
  | k :: ks, v :: vs, h => by
    rw [List.zip_cons_cons, List.lookup_cons]
    rw [List.findIdx?_cons] at h
    cases e : f == k with
    | true => rw [e] at h; cases h
    | false =>
      rw [e] at h
      have h : Option.map (fun i => i + 1) (ks.findIdx? (fun k => f == k)) = none := h
      cases e2 : ks.findIdx? (fun k => f == k) with
      | none => exact look_no e2
      | some j => rw [e2] at h; cases h
def dFld (c : Cl) (i : Nat) : D → Option D | .obj c' xs => if c' = c then xs[i]? else none | _ => none
theorem pp_fld {X : Cx} {e : Expr} {fe : Ev} {f : Str} {pos : Pos} (c : Cl) (i : Nat) (eK : X.K = K) (hc : Cls K (ct.ad c)) (hn : NoAttr K (ct.ad c) f) (he : PE X e (TP K ct W fe)) (hi : c.fn.findIdx? (fun k => f == k) = some i := by decide)
    (hb : attributeBase e f X.env (eval e X.env) = eval e X.env := by rfl) : PE X (.Attribute e f pos) (TP K ct W (ev1 (dFld c i) fe)) := by
  subst eK
  refine (pe_fld he hb).imp fun σ H Q h => ?_
  obtain ⟨fr, F, ρ, S, h⟩ := h
  refine h.dat S fun F1 H1 ρ1 v d s1 S1 r1 h => ?_
  obtain ⟨z, e1, q⟩ := h.opt
  obtain ⟨y, e2, rfl⟩ := map_some e1
  cases d <;> try cases e2
  rename_i c' xs
  cases r1 with
  | @obj p dx _ vs _ h1 l1 k1 =>
    have e3 : (if c' = c then xs[i]? else none) = some y := e2
    clear e2
    split at e3
    · rename_i ec
      subst ec
      obtain ⟨v, hv, rv⟩ := k1.get e3
      exact ⟨p, ct.ad c', dx, _, v, rfl, S1.fh _ _ h1, hc, hn, by rw [look_zip l1 hi, hv], q v F1 H1 (Same.refl _) S1 rv⟩
    · cases e3
/-! ### subscripts -/
def dIx : D → D → Option D
  | .lst xs, .int i => atI xs i | .sq xs, .int i => atI xs i | .tup xs, .int i => atI xs i
  | .str z, .int i => if z.length ≤ 16777216 then (atI z.cps.toList i).map fun c => .str ⟨#[c]⟩ else none
  | _, _ => none
theorem Rps.atI {F : Hp} {vs : List V} {ds : List D} {i : Int} {d : D} (h : Rps K ct.ad F vs ds) (e : L2.atI ds i = some d) : ∃ v, L2.atI vs i = some v ∧ Rp K ct.ad F v d := by
  unfold L2.atI at e ⊢
  rw [h.len]
  cases q : ixN ds.length i with
  | none =>
    rw [q] at e
    cases e
  | some j =>
    rw [q] at e
    exact h.get e
theorem o_ix : O2 K ct.ad (rIx K) dIx := by
  intro F H x y d e z Q s r1 r2 e1 q
  cases d <;> cases e <;> try cases e1
  · rename_i t i
    cases r1; cases r2
    have e1 : (if t.length ≤ 16777216 then (atI t.cps.toList i).map fun c => D.str ⟨#[c]⟩ else none) = some z := e1
    split at e1
    · rename_i h
      obtain ⟨c, h1, rfl⟩ := map_some e1
      exact .inr (.inr ⟨t, i, c, rfl, rfl, h, h1, q _ (.str _)⟩)
    · cases e1
  · cases r2
    cases r1 with
    | tup h k => obtain ⟨v, h1, h2⟩ := k.atI e1; exact .inr (.inl ⟨_, _, _, v, rfl, rfl, sameT s h, h1, q v h2⟩)
  · cases r2
    cases r1 with
    | lst h k => obtain ⟨v, h1, h2⟩ := k.atI e1; exact .inl ⟨_, _, _, v, rfl, rfl, SqL.of (s _ _ h), h1, q v h2⟩
  · cases r2
    cases r1 with
    | sq h k => obtain ⟨v, h1, h2⟩ := k.atI e1; exact .inl ⟨_, _, _, v, rfl, rfl, s.seq h, h1, q v h2⟩
theorem ix_seqK {X : Cx} (eK : X.K = K) : IxR X (rIx K) := by subst eK; exact ix_seq
theorem pp_ix {X : Cx} {a b : Expr} {fa fb : Ev} {pos : Pos} (eK : X.K = K) (ha : PE X a (TP K ct W fa)) (hb : PE X b (TP K ct W fb)) (hs : PlainIx b) : PE X (.Subscript a b pos) (TP K ct W (ev2 dIx fa fb)) := (pe_ix (ix_seqK eK) ha hb hs).imp fun _ _ _ => w_2 o_ix
/-! slices -/
def cut {α : Type} (xs : List α) (lo hi : Option Int) : List α := (xs.drop (HT.sIx xs.length 0 lo)).take (HT.sIx xs.length xs.length hi - HT.sIx xs.length 0 lo)
theorem Rps.cut {F : Hp} {vs : List V} {ds : List D} (h : Rps K ct.ad F vs ds) (lo hi : Option Int) : Rps K ct.ad F (cutV vs lo hi) (PL.cut ds lo hi) := by
  unfold cutV PL.cut
  rw [h.len]
  exact (h.drop _).take _
def dPart : Option Ev → M (Option Int)
  | none => pur none
  | some m => bnd (dat m) fun d => match d with | .int i => pur (some i) | _ => fai
def RO : Rel3 (Option Int) (Option Int) := fun _ _ _ _ _ a b => a = b
theorem pp_pn {X : Cx} : PO X none (T K ct RO W (dPart none)) := po_none.imp fun σ H Q h => by
  obtain ⟨fr, F, ρ, S, h⟩ := h
  exact Tat.ok (a := (none : Option Int)) h none F H (Same.refl _) S rfl
theorem pp_ps {X : Cx} {e : Expr} {m : Ev} (h : PE X e (TP K ct W m)) : PO X (some e) (T K ct RO W (dPart (some m))) := (po_some h).imp fun σ H Q h => by
  obtain ⟨fr, F, ρ, S, h⟩ := h
  refine Tat.dat h S fun F1 H1 ρ1 v d s1 S1 r1 h => ?_
  cases d with
  | int i =>
    cases r1
    exact ⟨i, rfl, Tat.ok (a := some i) h (some i) F1 H1 (Same.refl _) S1 rfl⟩
  | _ => obtain ⟨_, _, e, _⟩ := h; cases e
def evSl (m : Ev) (lo hi : Option Ev) : Ev := bnd (dat m) fun x => bnd (dPart lo) fun l => bnd (dPart hi) fun u => match x with
  | .lst xs => pur (.c (.lst (cut xs l u)))
  | .sq xs => pur (.c (.lst (cut xs l u)))
  | .tup xs => vD (.tup (cut xs l u))
  | .str z => if z.length ≤ 16777216 then vD (.str (cutS z l u)) else fai
  | _ => fai
def rSlD (K : PySem.W.Frag) : V → Option Int → Option Int → Hp → VK → Prop := fun x lo hi H Q => rSlL K x lo hi H Q ∨ rSlA K x lo hi H Q ∨ rSlS x lo hi H Q
theorem sl_d {X : Cx} (eK : X.K = K) : L2.SlR X (rSlD K) := by subst eK; exact sl_list.or (sl_tupA.or sl_str)
theorem whole_cut {α : Type} {xs : List α} {lo hi : Option Int} (h : HT.sIx xs.length 0 lo = 0 ∧ HT.sIx xs.length xs.length hi = xs.length) : cut xs lo hi = xs := by
  unfold cut
  rw [h.1, h.2]
  simp
theorem pp_sl {X : Cx} {e : Expr} {m : Ev} {lo hi : Option Expr} {l u : Option Ev} {pos p2 : Pos} (eK : X.K = K) (he : PE X e (TP K ct W m)) (hl : PO X lo (T K ct RO W (dPart l))) (hu : PO X hi (T K ct RO W (dPart u))) :
    PE X (.Subscript e (.Slice lo hi none p2) pos) (TP K ct W (evSl m l u)) := by
  refine (pe_slice (sl_d eK) he hl hu).imp fun σ H Q h => ?_
  obtain ⟨fr, F, ρ, S, h⟩ := h
  refine Tat.dat h S fun F1 H1 ρ1 v d s1 S1 r1 h => ?_
  refine Tat.bnd h S1 fun F2 H2 ρ2 l1 l2 s2 S2 r2 h => ?_
  refine Tat.bnd h S2 fun F3 H3 ρ3 u1 u2 s3 S3 r3 h => ?_
  cases r2
  cases r3
  have s := s2.trans s3
  cases d with
  | lst xs =>
    cases r1 with
    | @lst p vs _ h1 k1 =>
      refine .inl ⟨p, vs, rfl, SqL.of (S3.fh _ _ (s _ _ h1)), fun q hq => ?_⟩
      exact Tat.ok (a := Rv.c (.lst (cut xs l1 u1))) h _ F3 _ (Same.refl _) (S3.newC hq) ⟨q, rfl, S3.fresh hq ⟨_, upd_same, (k1.mono s).cut _ _⟩⟩
  | sq xs =>
    cases r1 with
    | @sq p vs _ h1 k1 =>
      refine .inl ⟨p, vs, rfl, (s.trans S3.fh).seq h1, fun q hq => ?_⟩
      exact Tat.ok (a := Rv.c (.lst (cut xs l1 u1))) h _ F3 _ (Same.refl _) (S3.newC hq) ⟨q, rfl, S3.fresh hq ⟨_, upd_same, (k1.mono s).cut _ _⟩⟩
  | tup xs =>
    cases r1 with
    | @tup p vs _ h1 k1 =>
      refine .inr (.inl ⟨p, vs, rfl, sameT (s.trans S3.fh) h1, fun w => ?_, fun w q hq => ?_⟩)
      · refine Tat.ok (a := Rv.d (.tup (cut xs l1 u1))) h _ F3 H3 (Same.refl _) S3 ?_
        rw [k1.len] at w
        show Rp K ct.ad F3 (.ref p) (.tup (cut xs l1 u1))
        rw [whole_cut w]
        exact (Rp.tup h1 k1).mono s
      · exact Tat.ok (a := Rv.d (.tup (cut xs l1 u1))) h _ (upd F3 q (.tup (cutV vs l1 u1))) _ (same_up (S3.nn hq)) (S3.newD hq) (Rp.tup (SqT.of upd_same) (((k1.mono s).cut _ _).mono (same_up (S3.nn hq))))
  | str z =>
    cases r1
    have h : Tat K ct (RV K ct.ad) W fr F3 ρ3 (if z.length ≤ 16777216 then vD (.str (cutS z l1 u1)) else fai) σ Q := h
    split at h
    · rename_i hz
      exact .inr (.inr ⟨z, rfl, hz, Tat.ok (a := Rv.d (.str (cutS z l1 u1))) h _ F3 H3 (Same.refl _) S3 (Rp.str _)⟩)
    · obtain ⟨_, _, e, _⟩ := h; cases e
  | _ => obtain ⟨_, _, e, _⟩ := h; cases e
/-! ### displays -/
inductive DE | e (m : Ev) | s (m : Ev)
def D.items : D → Option (List D) | .lst xs => some xs | .sq xs => some xs | .tup xs => some xs | _ => none
def evDs : List DE → M (List D)
  | [] => pur []
  | .e m :: r => bnd (dat m) fun d => bnd (evDs r) fun ds => pur (d :: ds)
  | .s m :: r => bnd (dat m) fun d => bnd (opt d.items) fun xs => bnd (evDs r) fun ds => pur (xs ++ ds)
variable (K ct) in
abbrev TD (W : WX) (m : M (List D)) : TA := T K ct (RDs K ct.ad) W m
theorem pd_n {X : Cx} : PA X [] (TD K ct W (evDs [])) := pa_nil.imp fun σ H Q h => by
  obtain ⟨fr, F, ρ, S, h⟩ := h
  exact Tat.ok (a := ([] : List D)) h [] F H (Same.refl _) S Rps.nil
theorem pd_c {X : Cx} {e : Expr} {es : List Expr} {m : Ev} {r : List DE} (he : PE X e (TP K ct W m)) (hr : PA X es (TD K ct W (evDs r)))
    (hs : starEach (e :: es) X.env = (false, eval e X.env) :: starEach es X.env := by rfl) : PA X (e :: es) (TD K ct W (evDs (.e m :: r))) := (pa_cons he hr hs).imp fun σ H Q h => by
  obtain ⟨fr, F, ρ, S, h⟩ := h
  refine Tat.dat h S fun F1 H1 ρ1 v d s1 S1 r1 h => ?_
  refine Tat.bnd h S1 fun F2 H2 ρ2 vs ds s2 S2 r2 h => ?_
  exact Tat.ok (a := d :: ds) h _ F2 H2 (Same.refl _) S2 (Rps.cons (r1.mono s2) r2)
theorem pd_s {X : Cx} {e : Expr} {es : List Expr} {m : Ev} {r : List DE} {p : Pos} (eK : X.K = K) (he : PE X e (TP K ct W m)) (hr : PA X es (TD K ct W (evDs r)))
    (hs : starEach (.Starred e p :: es) X.env = (true, eval e X.env) :: starEach es X.env := by rfl) : PA X (.Starred e p :: es) (TD K ct W (evDs (.s m :: r))) := (StX.pa_star he hr hs).imp fun σ H Q h => by
  subst eK
  obtain ⟨fr, F, ρ, S, h⟩ := h
  refine Tat.dat h S fun F1 H1 ρ1 v d s1 S1 r1 h => ?_
  obtain ⟨xs, ex, h⟩ := Tat.optL h
  have fin : ∀ vs, Rps X.K ct.ad F1 vs xs → T X.K ct (RDs X.K ct.ad) W (evDs r) σ H1 fun ys H2 => Q (vs ++ ys) H2 := fun vs rx => by
    refine Tat.bnd h S1 fun F2 H2 ρ2 us ds s2 S2 r2 h => ?_
    exact Tat.ok (a := xs ++ ds) h _ F2 H2 (Same.refl _) S2 ((rx.mono s2).app r2)
  cases d <;> try cases ex
  · cases r1 with | tup h1 k1 => exact ⟨_, _, rfl, .inl (sameT S1.fh h1), fin _ k1⟩
  · cases r1 with | lst h1 k1 => exact ⟨_, _, rfl, .inr (SqL.of (S1.fh _ _ h1)), fin _ k1⟩
  · cases r1 with | sq h1 k1 => exact ⟨_, _, rfl, .inr (S1.fh.seq h1), fin _ k1⟩
def evTup (es : List DE) : Ev := bnd (evDs es) fun ds => if ds.length ≤ 16777216 then vD (.tup ds) else fai
def evLst (es : List DE) : Ev := bnd (evDs es) fun ds => if ds.length ≤ 16777216 then pur (.c (.lst ds)) else fai
theorem pp_tup {X : Cx} {es : List Expr} {x1 : Nat} {r : List DE} {pos : Pos} (h : PA X es (TD K ct W (evDs r))) : PE X (.Tuple es x1 pos) (TP K ct W (evTup r)) := (pe_tup h).imp fun σ H Q h => by
  obtain ⟨fr, F, ρ, S, h⟩ := h
  refine Tat.bnd h S fun F1 H1 ρ1 vs ds s1 S1 r1 h => ?_
  have h : Tat K ct (RV K ct.ad) W fr F1 ρ1 (if ds.length ≤ 16777216 then vD (.tup ds) else fai) σ Q := h
  split at h
  · rename_i hz
    refine ⟨by rw [Rps.len r1]; exact hz, fun p hp => ?_⟩
    exact Tat.ok (a := Rv.d (.tup ds)) h _ (upd F1 p (.tup vs)) _ (same_up (S1.nn hp)) (S1.newD hp) (Rp.tup (SqT.of upd_same) (Rps.mono (same_up (S1.nn hp)) r1))
  · obtain ⟨_, _, e, _⟩ := h; cases e
theorem pp_lst {X : Cx} {es : List Expr} {r : List DE} {pos : Pos} (h : PA X es (TD K ct W (evDs r))) : PE X (.List es pos) (TP K ct W (evLst r)) := (pe_lst h).imp fun σ H Q h => by
  obtain ⟨fr, F, ρ, S, h⟩ := h
  refine Tat.bnd h S fun F1 H1 ρ1 vs ds s1 S1 r1 h => ?_
  have h : Tat K ct (RV K ct.ad) W fr F1 ρ1 (if ds.length ≤ 16777216 then pur (.c (.lst ds)) else fai) σ Q := h
  split at h
  · rename_i hz
    refine ⟨by rw [Rps.len r1]; exact hz, fun p hp => ?_⟩
    exact Tat.ok (a := Rv.c (.lst ds)) h _ F1 _ (Same.refl _) (S1.newC hp) ⟨p, rfl, S1.fresh hp ⟨_, upd_same, r1⟩⟩
  · obtain ⟨_, _, e, _⟩ := h; cases e
/-! ### texts that are put together -/
def dFmt : D → Option D
  | .str s => if s.length ≤ 16777216 then some (.str s) else none
  | .int i => if i.natAbs.log2 < 1920 then some (.str (toString i)) else none
  | _ => none
theorem pp_fmt {X : Cx} {e : Expr} {m : Ev} {pos : Pos} (he : PE X e (TP K ct W m)) : PE X (.FormattedValue e (-1) none pos) (TP K ct W (ev1 dFmt m)) := (pe_fmt he).imp fun σ H Q h => by
  obtain ⟨fr, F, ρ, S, h⟩ := h
  refine Tat.dat h S fun F1 H1 ρ1 v d s1 S1 r1 h => ?_
  obtain ⟨z, e1, q⟩ := h.opt
  obtain ⟨y, e2, rfl⟩ := map_some e1
  cases d with
  | str s =>
    have e2 : (if s.length ≤ 16777216 then some (D.str s) else none) = some y := e2
    split at e2
    · rename_i hz; cases e2; cases r1; exact .inl ⟨s, rfl, hz, q _ F1 H1 (Same.refl _) S1 (Rp.str _)⟩
    · cases e2
  | int i =>
    have e2 : (if i.natAbs.log2 < 1920 then some (D.str (toString i)) else none) = some y := e2
    split at e2
    · rename_i hz; cases e2; cases r1; exact .inr ⟨i, rfl, hz, q _ F1 H1 (Same.refl _) S1 (Rp.str _)⟩
    · cases e2
  | _ => cases e2
def evJs : List Ev → Str → M Str
  | [], acc => pur acc
  | m :: ms, acc => bnd (dat m) fun d => match d with | .str y => if (acc ++ y).length ≤ 16777216 then evJs ms (acc ++ y) else fai | _ => fai
variable (K ct) in
inductive PJs (X : Cx) (W : WX) : List Expr → List Ev → Prop where
  | nil : PJs X W [] []
  | cons {e : Expr} {m : Ev} {es : List Expr} {ms : List Ev} (h : PE X e (TP K ct W m)) (r : PJs X W es ms) : PJs X W (e :: es) (m :: ms)
theorem PJs.pj {X : Cx} : ∀ {es : List Expr} {ms : List Ev}, PJs K ct X W es ms → PJ X es (ms.map (TP K ct W))
  | _, _, .nil => .nil
  | _, _, .cons h r => .cons h r.pj
theorem w_js {fr : Fr} {Q : VK} : ∀ {ms : List Ev} {acc : Str} {F H : Hp} {ρ : List Sl}, Rel K ct fr F H σ ρ → Tat K ct (RV K ct.ad) W fr F ρ (bnd (evJs ms acc) fun s => vD (.str s)) σ Q → tJs (ms.map (TP K ct W)) acc σ H fun out H1 => Q (.str out) H1
  | [], acc, F, H, ρ, S, h => Tat.ok (a := Rv.d (.str acc)) h _ F H (Same.refl _) S (Rp.str _)
  | m :: ms, acc, F, H, ρ, S, h => by
    have e : bnd (evJs (m :: ms) acc) (fun s => vD (.str s)) = bnd (dat m) fun d => bnd (match d with | .str y => if (acc ++ y).length ≤ 16777216 then evJs ms (acc ++ y) else fai | _ => fai) fun s => vD (.str s) := by
      funext ρ
      show bnd (bnd (dat m) _) _ ρ = _
      unfold bnd
      cases em : dat m ρ with
      | none => rfl
      | some x =>
        obtain ⟨r1, ρ1⟩ := x
        cases r1 <;> rfl
    rw [e] at h
    refine Tat.dat h S fun F1 H1 ρ1 v d s1 S1 r1 h => ?_
    cases d with
    | str y =>
      cases r1
      have h : Tat K ct (RV K ct.ad) W fr F1 ρ1 (bnd (if (acc ++ y).length ≤ 16777216 then evJs ms (acc ++ y) else fai) fun s => vD (.str s)) σ Q := h
      split at h
      · rename_i hz
        exact ⟨y, rfl, hz, w_js S1 h⟩
      · obtain ⟨_, _, e, _⟩ := h; cases e
    | _ => obtain ⟨_, _, e, _⟩ := h; cases e
def evJn (ms : List Ev) : Ev := bnd (evJs ms Str.empty) fun s => vD (.str s)
theorem pp_joined {X : Cx} {v1 v2 : Expr} {rest : List Expr} {ms : List Ev} {pos : Pos} (h : PJs K ct X W (v1 :: v2 :: rest) ms) : PE X (.JoinedStr (v1 :: v2 :: rest) pos) (TP K ct W (evJn ms)) := (pe_joined h.pj).imp fun σ H Q h => by
  obtain ⟨fr, F, ρ, S, h⟩ := h
  exact w_js S h
theorem pp_joined1 {X : Cx} {e : Expr} {m : Ev} {pos : Pos} (h : PE X e (TP K ct W m)) : PE X (.JoinedStr [e] pos) (TP K ct W m) := pe_joined1 h
def D.strs : List D → Option (List Str)
  | [] => some []
  | .str s :: r => (D.strs r).map (s :: ·)
  | _ :: _ => none
def D.ints : List D → Option (List Int)
  | [] => some []
  | .int s :: r => (D.ints r).map (s :: ·)
  | _ :: _ => none
def D.bools : List D → Option (List Bool)
  | [] => some []
  | .bl s :: r => (D.bools r).map (s :: ·)
  | _ :: _ => none
theorem D.strs_eq : ∀ {ds : List D} {ys : List Str}, D.strs ds = some ys → ds = ys.map D.str
  | [], _, h => by cases h; rfl
  | d :: ds, _, h => by
    cases d <;> try cases h
    obtain ⟨r, h1, rfl⟩ := map_some h
    rw [D.strs_eq h1]; rfl
theorem D.ints_eq : ∀ {ds : List D} {ys : List Int}, D.ints ds = some ys → ds = ys.map D.int
  | [], _, h => by cases h; rfl
  | d :: ds, _, h => by
    cases d <;> try cases h
    obtain ⟨r, h1, rfl⟩ := map_some h
    rw [D.ints_eq h1]; rfl
theorem D.bools_eq : ∀ {ds : List D} {ys : List Bool}, D.bools ds = some ys → ds = ys.map D.bl
  | [], _, h => by cases h; rfl
  | d :: ds, _, h => by
    cases d <;> try cases h
    obtain ⟨r, h1, rfl⟩ := map_some h
    rw [D.bools_eq h1]; rfl
theorem D.strs_map : ∀ ys : List Str, D.strs (ys.map D.str) = some ys
  | [] => rfl
  | y :: ys => by rw [List.map_cons, D.strs, D.strs_map ys]; rfl
theorem D.ints_map : ∀ ys : List Int, D.ints (ys.map D.int) = some ys
  | [] => rfl
  | y :: ys => by rw [List.map_cons, D.ints, D.ints_map ys]; rfl
theorem D.bools_map : ∀ ys : List Bool, D.bools (ys.map D.bl) = some ys
  | [] => rfl
  | y :: ys => by rw [List.map_cons, D.bools, D.bools_map ys]; rfl
def dJoin (a : Str) (d : D) : Option D := (d.items.bind D.strs).bind fun ys => if (ys.map (·.length)).sum + ys.length * a.length ≤ 16777216 then some (.str (Txt.join a ys)) else none
def evJoin (o e : Ev) : Ev := bnd (dat o) fun x => match x with
  | .str a => bnd (dat e) fun d => opt ((dJoin a d).map Rv.d)
  | _ => fai
/-- how items lie: a list or a tuple -/
theorem Rp.seq {F H : Hp} {v : V} {d : D} {xs : List D} (s : Same F H) (r : Rp K ad F v d) (h : d.items = some xs) : ∃ p vs, v = .ref p ∧ (SqL K H p vs ∨ SqT K H p vs) ∧ Rps K ad F vs xs := by
  cases d <;> try cases h
  · cases r with | tup h k => exact ⟨_, _, rfl, .inr (sameT s h), k⟩
  · cases r with | lst h k => exact ⟨_, _, rfl, .inl (SqL.of (s _ _ h)), k⟩
  · cases r with | sq h k => exact ⟨_, _, rfl, .inl (s.seq h), k⟩
theorem pp_join {X : Cx} {o e : Expr} {fo fe : Ev} {apos pos : Pos} (eK : X.K = K) (ho : PE X o (TP K ct W fo)) (he : PE X e (TP K ct W fe)) (hs : starEach [e] X.env = [(false, eval e X.env)] := by rfl) (hbase : attributeBase o "join" X.env (eval o X.env) = eval o X.env := by rfl) (hline : (apos.endLine == pos.line) = true := by rfl) :
    PE X (.Call (.Attribute o "join" apos) [e] [] pos) (TP K ct W (evJoin fo fe)) := (pe_join ho he hs hbase hline).imp fun σ H Q h => by
  subst eK
  obtain ⟨fr, F, ρ, S, h⟩ := h
  refine Tat.dat h S fun F1 H1 ρ1 v d s1 S1 r1 h => ?_
  have sv : ∃ a, d = .str a := by
    cases d with
    | str a => exact ⟨a, rfl⟩
    | _ => obtain ⟨_, _, e, _⟩ := h; cases e
  obtain ⟨a, rfl⟩ := sv
  cases r1
  refine ⟨⟨a, rfl⟩, ?_⟩
  refine Tat.dat h S1 fun F2 H2 ρ2 u e s2 S2 r2 h => ?_
  obtain ⟨z, e1, q⟩ := h.opt
  obtain ⟨y, e2, rfl⟩ := map_some e1
  have e2 : ((e.items.bind D.strs).bind fun ys => if (ys.map (·.length)).sum + ys.length * a.length ≤ 16777216 then some (D.str (Txt.join a ys)) else none) = some y := e2
  cases e3 : e.items with
  | none => rw [e3] at e2; cases e2
  | some xs =>
    rw [e3] at e2
    cases e4 : D.strs xs with
    | none => rw [show (Option.some xs).bind D.strs = D.strs xs from rfl, e4] at e2; cases e2
    | some ys =>
      rw [show (Option.some xs).bind D.strs = D.strs xs from rfl, e4] at e2
      have e2 : (if (ys.map (·.length)).sum + ys.length * a.length ≤ 16777216 then some (D.str (Txt.join a ys)) else none) = some y := e2
      split at e2
      · rename_i hz
        cases e2
        obtain ⟨p, vs, rfl, hp, rx⟩ := r2.seq S2.fh e3
        rw [D.strs_eq e4] at rx
        rw [rx.strs] at hp
        exact ⟨a, p, ys, rfl, rfl, hp, hz, q _ F2 H2 (Same.refl _) S2 (Rp.str _)⟩
      · cases e2
end PL
end
section
namespace PL
open PySem PySem.Spec PyProof.Rows L2
variable {K : PySem.W.Frag} {ad : Cl → Addr} {ct : CT}
variable {fr : Fr} {F F' H H' : Hp} {σ : L2.St} {ρ : List Sl} {W : WX}
/-! ### defs -/
abbrev Fn := M Rv
variable (K ad) in
def spP (n : Nat) (G : Fn) : Sp := fun vs H Q E => vs.length = n ∧ ∃ fr F ss, Rel K (cx ad) fr F H (vs.map some) ss ∧ (∀ b, (∀ j, fr.pa j ≠ some b) → fr.P b = H b) ∧ fr.F0 = F ∧ Tat K (cx ad) (RV K ad) (fun cls d _ H' => E cls d H') fr F ss G (vs.map some) Q
variable (K ct) in
def Sat (W : WX) (D : Ends) (fr : Fr) (F : Hp) (ρ : List Sl) (s : M Fl) : Prop := ∃ r ρ', s ρ = some (r, ρ') ∧ match r with
  | .ok .nx => ∀ σ' F' H', Same F F' → Rel K ct fr F' H' σ' ρ' → D.nx σ' H'
  | .ok .bk => ∀ σ' F' H', Same F F' → Rel K ct fr F' H' σ' ρ' → D.bk σ' H'
  | .ok .ct => ∀ σ' F' H', Same F F' → Rel K ct fr F' H' σ' ρ' → D.ct σ' H'
  | .ok (.rt x) => ∀ σ' v F' H', Same F F' → Rel K ct fr F' H' σ' ρ' → RV K ct.ad fr F' H' σ' ρ' v x → D.rt v H'
  | .er c pl => ∀ σ' d F' H', Same F F' → Rel K ct fr F' H' σ' ρ' → PlR K ct.ad F' c pl d → W (.ref (ct.ad c)) d σ' H'
variable (K ct) in
def TSt (W : WX) (s : M Fl) : TS := fun D σ H => ∃ fr F ρ, Rel K ct fr F H σ ρ ∧ Sat K ct W D fr F ρ s
def outs : List Sl → List Sl → List Sl
  | .dat d :: ss, ρ => .dat d :: outs ss ρ.tail
  | .cel .par c :: ss, ρ => (ρ.head?.getD .un) :: outs ss ρ.tail
  | _ :: ss, ρ => .un :: outs ss ρ.tail
  | [], _ => []
theorem outs_len : ∀ (ss ρ : List Sl), (outs ss ρ).length = ss.length
  | [], _ => rfl
  | s :: ss, ρ => by cases s <;> first | exact congrArg (· + 1) (outs_len ss _) | (rename_i k c; cases k <;> exact congrArg (· + 1) (outs_len ss _))
theorem outs_get : ∀ (ss ρ : List Sl) (i : Nat) (s : Sl), (outs ss ρ)[i]? = some s → (∃ d, ss[i]? = some (.dat d) ∧ s = .dat d) ∨ (∃ c, ss[i]? = some (.cel .par c) ∧ s = (ρ[i]?).getD .un) ∨ s = .un
  | [], _, _, _, h => by simp [outs] at h
  | x :: ss, ρ, 0, s, h => by
    cases x with
    | dat d => simp only [outs, List.getElem?_cons_zero, Option.some.injEq] at h; exact .inl ⟨d, rfl, h.symm⟩
    | cel k c =>
      cases k <;> simp only [outs, List.getElem?_cons_zero, Option.some.injEq] at h
      all_goals first
        | exact .inr (.inr h.symm)
        | (refine .inr (.inl ⟨c, rfl, ?_⟩); rw [← h]; cases ρ <;> rfl)
    | un => simp only [outs, List.getElem?_cons_zero, Option.some.injEq] at h; exact .inr (.inr h.symm)
    | exn c pl => simp only [outs, List.getElem?_cons_zero, Option.some.injEq] at h; exact .inr (.inr h.symm)
  | x :: ss, ρ, i + 1, s, h => by
    have e : (outs (x :: ss) ρ)[i + 1]? = (outs ss ρ.tail)[i]? := by
      cases x <;> first | rfl | (rename_i k c; cases k <;> rfl)
    rw [e] at h
    have t : ρ.tail[i]? = ρ[i + 1]? := by cases ρ <;> simp
    have z := outs_get ss ρ.tail i s h
    rw [t] at z
    simpa using z
theorem outs_par : ∀ (ss ρ : List Sl) (i : Nat) (c : CC), ss[i]? = some (.cel .par c) → (outs ss ρ)[i]? = some ((ρ[i]?).getD .un)
  | [], _, _, _, h =>
    by simp at h
  | x :: ss, ρ, 0, c, h => by
    (simp only [List.getElem?_cons_zero, Option.some.injEq] at h)
    subst h
    cases ρ <;> rfl
  | x :: ss, ρ, i + 1, c, h => by
    have e : (outs (x :: ss) ρ)[i + 1]? = (outs ss ρ.tail)[i]? := by
      cases x <;> first | rfl | (rename_i k c; cases k <;> rfl)
    have t : ρ.tail[i]? = ρ[i + 1]? := by cases ρ <;> simp
    rw [e, outs_par ss ρ.tail i c (by simpa using h), t]
def runB (k : Nat) (s : M Fl) : Fn := fun ss => match s (ss ++ List.replicate k .un) with
  | some (.ok .nx, ρ) => some (.ok (.d .non), outs ss ρ)
  | some (.ok (.rt r), ρ) => some (.ok r, outs ss ρ)
  | some (.er c pl, ρ) => some (.er c pl, outs ss ρ)
  | _ => none
theorem Rel.outs {fr : Fr} {F F' H H' : Hp} {vs : List V} {ss : List Sl} {σ' : L2.St} {ρ' : List Sl} (S : Rel K ct fr F H (vs.map some) ss) (S' : Rel K ct fr F' H' σ' ρ') (s : Same F F') : Rel K ct fr F' H' (vs.map some) (PL.outs ss ρ') := by
  have cl : ∀ {i : Nat} {k : CK} {c : CC}, (PL.outs ss ρ')[i]? = some (.cel k c) → ∃ c0 p, ss[i]? = some (.cel .par c0) ∧ ρ'[i]? = some (.cel k c) ∧ fr.pa i = some p ∧ (vs.map some)[i]? = some (some (.ref p)) := fun {i k c} e => by
    rcases outs_get ss ρ' i _ e with ⟨d, _, z⟩ | ⟨c0, h1, h2⟩ | z
    · cases z
    · have h3 : ρ'[i]? = some (.cel k c) := by
        cases q : ρ'[i]? with
        | none => rw [q] at h2; cases h2
        | some x => rw [q] at h2; exact congrArg some h2.symm
      obtain ⟨o, g1, p, g2, g3, g4, g5, g6, g7⟩ := S.slot i _ h1
      subst g2
      exact ⟨c0, p, h1, h3, g5 rfl, g1⟩
    · cases z
  refine ⟨by rw [outs_len]; exact S.len, S'.fh, fun i s0 e => ?_, fun i j k c k' c' p e1 e2 h1 h2 => ?_, S'.keep, S'.fro, fun i p e => ?_⟩
  · rcases outs_get ss ρ' i _ e with ⟨d, h1, rfl⟩ | ⟨c0, h1, h2⟩ | rfl
    · obtain ⟨o, g1, v, g2, g3⟩ := S.slot i _ h1
      exact ⟨o, g1, v, g2, g3.mono s⟩
    · obtain ⟨o, g1, p, g2, g3, g4, g5, g6, g7⟩ := S.slot i _ h1
      have pi := g5 rfl
      obtain ⟨k, c, q1, q2⟩ := S'.pcs i p pi
      rw [q1] at h2
      have h2 : s0 = .cel k c := h2
      subst h2
      obtain ⟨o', w1, p', w2, w3, w4, w5, w6, w7⟩ := S'.slot i _ q1
      have := w5 q2
      rw [pi] at this
      cases this
      subst g2
      exact ⟨_, g1, _, rfl, w3, w4, w5, w6, w7⟩
    · obtain ⟨l, _⟩ := List.getElem?_eq_some_iff.mp e
      rw [outs_len, ← S.len] at l
      exact ⟨_, List.getElem?_eq_getElem l, trivial⟩
  · obtain ⟨_, _, a1, _, _, _⟩ := cl e1
    obtain ⟨_, _, a2, _, _, _⟩ := cl e2
    exact S.dis i j _ _ _ _ p a1 a2 h1 h2
  · obtain ⟨k, c, h1, h2⟩ := S.pcs i p e
    obtain ⟨k', c', q1, q2⟩ := S'.pcs i p e
    have hk : k = .par := by cases k <;> simp [CK.isPar] at h2 ⊢
    subst hk
    obtain ⟨l, _⟩ := List.getElem?_eq_some_iff.mp h1
    have l2 : i < (PL.outs ss ρ').length := by rw [outs_len]; exact l
    rcases outs_get ss ρ' i _ (List.getElem?_eq_getElem l2) with ⟨d, z, _⟩ | ⟨c0, z1, z2⟩ | z
    · rw [h1] at z; cases z
    · refine ⟨k', c', ?_, q2⟩
      rw [List.getElem?_eq_getElem l2, z2, q1]; rfl
    · obtain ⟨o, g1, p', g2, g3, g4, g5, g6, g7⟩ := S.slot i _ h1
      have e2 := outs_par ss ρ' i c h1
      rw [List.getElem?_eq_getElem l2, z, q1] at e2
      cases e2
/-- the end of a body is the def's end -/
theorem body_end {n k : Nat} {s : M Fl} {vs : List V} {N : List Str} {H : Hp} {Q : VK} {E : XK} (hN : N.length = n + k) (h : spP K ad n (runB k s) vs H Q E) :
    TSt K (cx ad) (fun cls d _ H' => E cls d H') s { nx := fun _ H' => Q .non H', rt := Q } (L2.start N vs) H := by
  obtain ⟨hn, fr, F, ss, S, hP, hF, r, ss', e, q⟩ := h
  have S0 : Rel K (cx ad) fr F H (L2.start N vs) (ss ++ List.replicate k .un) := by
    have l1 : vs.length = ss.length := by have := S.len; rw [List.length_map] at this; exact this
    have ek : N.length - vs.length = k := by omega
    unfold L2.start
    rw [ek]
    have cel : ∀ {i : Nat} {k' : CK} {c : CC}, (ss ++ List.replicate k Sl.un)[i]? = some (.cel k' c) → ss[i]? = some (.cel k' c) := fun {i k' c} z => by
      by_cases l : i < ss.length
      · rw [List.getElem?_append_left l] at z; exact z
      · rw [List.getElem?_append_right (by omega), List.getElem?_replicate] at z
        split at z <;> cases z
    have get : ∀ {i : Nat}, i < ss.length → (vs.map some ++ List.replicate k (none : Option V))[i]? = (vs.map some)[i]? := fun {i} l => List.getElem?_append_left (by rw [List.length_map]; omega)
    refine ⟨by simp [l1], S.fh, fun i s0 z => ?_, fun i j k1 c k2 c' p z1 z2 z3 z4 => ?_, S.keep, S.fro, fun i p z => ?_⟩
    · by_cases l : i < ss.length
      · rw [List.getElem?_append_left l] at z
        obtain ⟨o, g1, g2⟩ := S.slot i s0 z
        exact ⟨o, by rw [get l]; exact g1, g2⟩
      · have l3 := (List.getElem?_eq_some_iff.mp z).1
        rw [List.getElem?_append_right (by omega), List.getElem?_replicate] at z
        split at z
        · cases z
          refine ⟨none, ?_, trivial⟩
          rw [List.getElem?_append_right (by rw [List.length_map]; omega), List.getElem?_replicate, if_pos (by simp at l3 ⊢; omega)]
        · cases z
    · have y1 := cel z1
      have y2 := cel z2
      rw [get (List.getElem?_eq_some_iff.mp y1).1] at z3
      rw [get (List.getElem?_eq_some_iff.mp y2).1] at z4
      exact S.dis i j _ _ _ _ p y1 y2 z3 z4
    · obtain ⟨k1, c, h1, h2⟩ := S.pcs i p z
      exact ⟨k1, c, by rw [List.getElem?_append_left (List.getElem?_eq_some_iff.mp h1).1]; exact h1, h2⟩
  refine ⟨fr, F, _, S0, ?_⟩
  unfold runB at e
  cases em : s (ss ++ List.replicate k .un) with
  | none => rw [em] at e; cases e
  | some x =>
    obtain ⟨r1, ρ1⟩ := x
    rw [em] at e
    refine ⟨r1, ρ1, em, ?_⟩
    cases r1 with
    | er c pl =>
      cases e
      exact fun σ' d F' H' s' S' pr => q d F' H' s' (S.outs S' s') pr
    | ok fl =>
      cases fl with
      | nx => cases e; exact fun σ' F' H' s' S' => q _ F' H' s' (S.outs S' s') Rp.non
      | bk => cases e
      | ct => cases e
      | rt x =>
        cases e
        intro σ' v F' H' s' S' rv
        refine q v F' H' s' (S.outs S' s') ?_
        cases x with
        | d d => exact rv
        | c c =>
          obtain ⟨p, ev, f1, f2, f3, f4, f5⟩ := rv
          refine ⟨p, ev, f1, f2, f3, f4, fun i k' c' z1 z2 => ?_⟩
          have S2 := S.outs S' s'
          obtain ⟨o, g1, p', g2, g3, g4, g5, g6, g7⟩ := S2.slot i _ z1
          rw [g1] at z2
          subst g2
          cases z2
          rcases outs_get ss ρ1 i _ z1 with ⟨d, _, w⟩ | ⟨c0, w1, w2⟩ | w
          · cases w
          · obtain ⟨o, y1, p2, y2, y3, y4, y5, y6, y7⟩ := S.slot i _ w1
            subst y2
            rw [g1] at y1
            cases y1
            exact f3 i (y5 rfl)
          · cases w
section
variable {P : Program} {w : World} {mg : Str → Option Value} {base : Heap} {x qual : Str} {st : Stmt} {f : Addr} {fd : FuncData} {N ps : List Str} {lv : Nat} {n k : Nat} {s : M Fl}
theorem okX (Fd : L2.Fun K x qual st f fd) (S : FnScope N ps (defScope st)) (hp : ps.length = n) (hN : N.length = n + k)
    (hb : ∀ (cdv : Value) (A : Around) (outer : List Env) (s0 : Shared) (H : Hp) (E : XK), Room lv (A.deeper (envOfC qual (defScope st) s0.heap.objs.size f cdv)) →
      PSs (cxOf (L2.CX P w) P w K mg base N qual (defScope st) f cdv A outer s0 H E) (defBody st) (TSt K (cx ad) (fun cls d _ H' => E cls d H') s)) : FnOk P w K mg base (L2.CX P w) (lv + 1) f fd ps (spP K ad n (runB k s)) :=
  Fd.okX S (fun vs H Q E h => by rw [hp]; exact h.1) fun cdv A outer s0 H vs Q E hr h => ⟨_, hb cdv A outer s0 H E hr, body_end hN h⟩
theorem okXD {dvs : List V} {kws : List (Str × V)} (Fd : FunD K x qual (defArgs st) (defBody st) (defScope st) dvs kws f fd) (S : FnScope N ps (defScope st)) (hp : ps.length = n) (hN : N.length = n + k)
    (hb : ∀ (cdv : Value) (A : Around) (outer : List Env) (s0 : Shared) (H : Hp) (E : XK), Room lv (A.deeper (envOfC qual (defScope st) s0.heap.objs.size f cdv)) →
      PSs (cxOf (L2.CX P w) P w K mg base N qual (defScope st) f cdv A outer s0 H E) (defBody st) (TSt K (cx ad) (fun cls d _ H' => E cls d H') s)) : FnOk P w K mg base (L2.CX P w) (lv + 1) f fd ps (spP K ad n (runB k s)) :=
  Fd.ok S (fun vs H Q E h => by rw [hp]; exact h.1) fun cdv A outer s0 H vs Q E hr h => ⟨_, hb cdv A outer s0 H E hr, body_end hN h⟩
end
/-! ### calls -/
inductive AE | e (m : Ev) | c (j : Nat)
def evAs : List AE → M (List Ar)
  | [] => pur []
  | .e m :: r => bnd (dat m) fun d => bnd (evAs r) fun as => pur (.d d :: as)
  | .c j :: r => fun ρ => match ρ[j]? with
    | some (.cel _ _) => bnd (evAs r) (fun as => pur (.c j :: as)) ρ
    | _ => none
def argSl (ρ : List Sl) : List Ar → Option (List Sl)
  | [] => some []
  | .d d :: r => (argSl ρ r).map (.dat d :: ·)
  | .c j :: r => match ρ[j]? with
    | some (.cel _ c) => (argSl ρ r).map (.cel .par c :: ·)
    | _ => none
def celsOf : List Ar → List Nat
  | [] => []
  | .d _ :: r => celsOf r
  | .c j :: r => j :: celsOf r
def newc : List Ar → List Sl → Nat → Option CC
  | .c j :: ar, .cel _ c :: ss, i => match newc ar ss i with | some c' => some c' | none => if i = j then some c else none
  | _ :: ar, _ :: ss, i => newc ar ss i
  | _, _, _ => none
def updc (ρ : List Sl) (j : Nat) (c : CC) : List Sl := match ρ[j]? with
  | some (.cel k _) => ρ.set j (.cel k c)
  | _ => ρ
def back (ρ : List Sl) : List Ar → List Sl → List Sl
  | .c j :: ar, .cel _ c :: ss => back (updc ρ j c) ar ss
  | _ :: ar, _ :: ss => back ρ ar ss
  | _, _ => ρ
def callG (n : Nat) (G : Fn) (ar : List Ar) : Ev := fun ρ => match argSl ρ ar with
  | none => none
  | some ss => if ar.length = n ∧ (celsOf ar).Nodup then match G ss with
      | none => none
      | some (r, ss') => some (r, back ρ ar ss')
    else none
def evCall (n : Nat) (G : Fn) (as : List AE) (ds : List D := []) : Ev := bnd (evAs as) fun ar => callG n G (ar ++ ds.map .d)
/-- a result that is no exception -/
def noEr {α : Type} (m : M α) : M α := fun ρ => match m ρ with | some (.ok a, ρ') => some (.ok a, ρ') | _ => none
theorem updc_get (ρ : List Sl) (j : Nat) (c : CC) (i : Nat) : (updc ρ j c)[i]? = (ρ[i]?).map fun s => match s with | .cel k c0 => .cel k (if i = j then c else c0) | s => s := by
  unfold updc
  split
  · rename_i k c0 h
    by_cases q : j = i
    · subst q
      rw [List.getElem?_set_self (List.getElem?_eq_some_iff.mp h).1, h]
      simp
    · rw [List.getElem?_set_ne q]
      cases e : ρ[i]? with
      | none => rfl
      | some s => cases s <;> simp [show ¬ i = j from fun z => q z.symm]
  · rename_i h
    cases e : ρ[i]? with
    | none => rfl
    | some s =>
      cases s <;> try rfl
      rename_i k c0
      by_cases q : i = j
      · subst q
        exact absurd e (h _ _)
      · simp [q]
theorem back_get : ∀ (ar : List Ar) (ss ρ : List Sl) (i : Nat), (back ρ ar ss)[i]? = (ρ[i]?).map fun s => match s with | .cel k c0 => .cel k ((newc ar ss i).getD c0) | s => s
  | [], ss, ρ, i => by
    cases e : ρ[i]? with
    | none => simp [back, e]
    | some s => cases s <;> simp [back, e, newc]
  | a :: ar, [], ρ, i => by
    cases e : ρ[i]? with
    | none => cases a <;> simp [back, e]
    | some s => cases a <;> cases s <;> simp [back, e, newc]
  | .d d :: ar, s :: ss, ρ, i => by
    rw [show back ρ (.d d :: ar) (s :: ss) = back ρ ar ss from rfl, back_get ar ss ρ i]
    rfl
  | .c j :: ar, s :: ss, ρ, i => by
    cases s with
    | cel k c =>
      rw [show back ρ (.c j :: ar) (.cel k c :: ss) = back (updc ρ j c) ar ss from rfl, back_get ar ss _ i, updc_get]
      cases e : ρ[i]? with
      | none => rfl
      | some s =>
        cases s <;> try rfl
        rename_i k0 c0
        simp only [Option.map_some, newc]
        cases newc ar ss i with
        | some c' => rfl
        | none => by_cases q : i = j <;> simp [q]
    | _ => rw [show back ρ (.c j :: ar) (_ :: ss) = back ρ ar ss from rfl, back_get ar ss ρ i]; rfl
theorem newc_some : ∀ {ar : List Ar} {ss : List Sl} {i : Nat} {c : CC}, newc ar ss i = some c → ∃ (q : Nat) (k : CK), ar[q]? = some (Ar.c i) ∧ ss[q]? = some (Sl.cel k c)
  | [], _, _, _, h => by simp [newc] at h
  | .d _ :: _, [], _, _, h => by simp [newc] at h
  | .c _ :: _, [], _, _, h => by simp [newc] at h
  | .d d :: ar, s :: ss, i, c, h => by
    have h : newc ar ss i = some c := h
    obtain ⟨q, k, h1, h2⟩ := newc_some h
    exact ⟨q + 1, k, by simpa using h1, by simpa using h2⟩
  | .c j :: ar, s :: ss, i, c, h => by
    have back' : newc ar ss i = some c → ∃ (q : Nat) (k : CK), (Ar.c j :: ar)[q]? = some (Ar.c i) ∧ (s :: ss)[q]? = some (Sl.cel k c) := fun h => by
      obtain ⟨q, k, h1, h2⟩ := newc_some h
      exact ⟨q + 1, k, by simpa using h1, by simpa using h2⟩
    cases s with
    | cel k c0 =>
      cases en : newc ar ss i with
      | some c' =>
        have h2 : (match newc ar ss i with | some c' => some c' | none => if i = j then some c0 else none) = some c := h
        rw [en] at h2
        exact back' (en.trans h2)
      | none =>
        have h2 : (match newc ar ss i with | some c' => some c' | none => if i = j then some c0 else none) = some c := h
        rw [en] at h2
        have h3 : (if i = j then some c0 else none) = some c := h2
        by_cases q : i = j
        · rw [if_pos q] at h3
          cases h3
          exact ⟨0, k, by rw [q]; rfl, rfl⟩
        · rw [if_neg q] at h3
          cases h3
    | _ => exact back' h
theorem newc_of : ∀ {ar : List Ar} {ss : List Sl} {i q : Nat} {k : CK} {c : CC}, ar[q]? = some (.c i) → ss[q]? = some (.cel k c) → ∃ c', newc ar ss i = some c'
  | [], _, _, _, _, _, h, _ =>
    by simp at h
  | _ :: _, [], _, _, _, _, _, h =>
    by simp at h
  | a :: ar, s :: ss, i, 0, k, c, h1, h2 => by
    simp only [List.getElem?_cons_zero, Option.some.injEq] at h1 h2
    subst h1 h2
    show ∃ c', (match newc ar ss i with | some c' => some c' | none => if i = i then some c else none) = some c'
    split
    · exact ⟨_, rfl⟩
    · exact ⟨c, by simp⟩
  | a :: ar, s :: ss, i, q + 1, k, c, h1, h2 => by
    obtain ⟨c', e⟩ := newc_of (ar := ar) (ss := ss) (i := i) (q := q) (by simpa using h1) (by simpa using h2)
    cases a with
    | d d => exact ⟨c', e⟩
    | c j =>
      cases s with
      | cel k0 c0 =>
        show ∃ c', (match newc ar ss i with | some c' => some c' | none => if i = j then some c0 else none) = some c'
        rw [e]
        exact ⟨c', rfl⟩
      | _ => exact ⟨c', e⟩
theorem argSl_len {ρ : List Sl} : ∀ {ar : List Ar} {ss : List Sl}, argSl ρ ar = some ss → ss.length = ar.length
  | [], _, h => by cases h; rfl
  | .d d :: r, _, h => by
    obtain ⟨s, h1, rfl⟩ := map_some h
    exact congrArg (· + 1) (argSl_len h1)
  | .c j :: r, _, h => by
    unfold argSl at h
    split at h
    · obtain ⟨s, h1, rfl⟩ := map_some h
      exact congrArg (· + 1) (argSl_len h1)
    · cases h
theorem argSl_get {ρ : List Sl} : ∀ {ar : List Ar} {ss : List Sl} {i : Nat}, argSl ρ ar = some ss → i < ar.length → (∃ d, ar[i]? = some (.d d) ∧ ss[i]? = some (.dat d)) ∨ ∃ j k c, ar[i]? = some (.c j) ∧ ρ[j]? = some (.cel k c) ∧ ss[i]? = some (.cel .par c)
  | [], _, _, _, l =>
    by simp at l
  | .d d :: r, _, i, h, l => by
    obtain ⟨s, h1, rfl⟩ := map_some h
    cases i with
    | zero => exact .inl ⟨d, rfl, rfl⟩
    | succ i => simpa using argSl_get (i := i) h1 (by simpa using l)
  | .c j :: r, _, i, h, l => by
    unfold argSl at h
    split at h
    · rename_i k c e
      obtain ⟨s, h1, rfl⟩ := map_some h
      cases i with
      | zero => exact .inr ⟨j, k, c, rfl, e, rfl⟩
      | succ i => simpa using argSl_get (i := i) h1 (by simpa using l)
    · cases h
theorem celsOf_inj : ∀ {ar : List Ar} {p q j : Nat}, (celsOf ar).Nodup → ar[p]? = some (.c j) → ar[q]? = some (.c j) → p = q := by
  intro ar
  have mem : ∀ {ar : List Ar} {q j : Nat}, ar[q]? = some (.c j) → j ∈ celsOf ar := by
    intro ar
    induction ar with
    | nil => intro q j h; simp at h
    | cons a ar ih =>
      intro q j h
      cases q with
      | zero => simp only [List.getElem?_cons_zero, Option.some.injEq] at h; subst h; exact List.mem_cons_self
      | succ q =>
        have z := ih (q := q) (by simpa using h)
        cases a with
        | d _ => exact z
        | c _ => exact List.mem_cons_of_mem _ z
  induction ar with
  | nil => intro p q j _ h; simp at h
  | cons a ar ih =>
    intro p q j nd h1 h2
    cases a with
    | d _ =>
      cases p with
      | zero => simp at h1
      | succ p =>
        cases q with
        | zero => simp at h2
        | succ q => rw [ih nd (p := p) (q := q) (by simpa using h1) (by simpa using h2)]
    | c j0 =>
      have nd : (j0 :: celsOf ar).Nodup := nd
      rw [List.nodup_cons] at nd
      cases p with
      | zero =>
        cases q with
        | zero => rfl
        | succ q =>
          simp only [List.getElem?_cons_zero, Option.some.injEq, Ar.c.injEq] at h1
          subst h1
          exact absurd (mem (q := q) (by simpa using h2)) nd.1
      | succ p =>
        cases q with
        | zero =>
          simp only [List.getElem?_cons_zero, Option.some.injEq, Ar.c.injEq] at h2
          subst h2
          exact absurd (mem (q := p) (by simpa using h1)) nd.1
        | succ q => rw [ih nd.2 (p := p) (q := q) (by simpa using h1) (by simpa using h2)]
theorem RAs.get {F : Hp} {σ : L2.St} : ∀ {vs : List V} {as : List Ar} {i : Nat} {a : Ar}, RAs K ct.ad F σ vs as → as[i]? = some a → ∃ v, vs[i]? = some v ∧ RA1 K ct.ad F σ v a
  | _, _, _, _, .nil, e =>
    by simp at e
  | _, _, 0, _, .cons h _, e => by simp at e; subst e; exact ⟨_, rfl, h⟩
  | _, _, i + 1, a, .cons _ t, e => by
    obtain ⟨v, h1, h2⟩ := RAs.get (i := i) (a := a) t (by simpa using e)
    exact ⟨v, by simpa using h1, h2⟩
theorem RAs.len {F : Hp} {σ : L2.St} : ∀ {vs : List V} {as : List Ar}, RAs K ct.ad F σ vs as → vs.length = as.length
  | _, _, .nil => rfl
  | _, _, .cons _ r => congrArg (· + 1) r.len
open Classical in
/-- the frame of a call -/
noncomputable def callFr (F H : Hp) (σ : L2.St) (ar : List Ar) : Fr :=
  let pa : Nat → Option Addr := fun i => match ar[i]? with
    | some (.c j) => (match σ[j]? with | some (some (.ref p)) => some p | _ => none)
    | _ => none
  ⟨fun b => if ∃ i, pa i = some b then none else H b, F, pa⟩
theorem callFr_pa {F H : Hp} {σ : L2.St} {ar : List Ar} {i p : Nat} (h : (callFr F H σ ar).pa i = some p) : ∃ j, ar[i]? = some (.c j) ∧ σ[j]? = some (some (.ref p)) := by
  have h : (match ar[i]? with | some (.c j) => (match σ[j]? with | some (some (.ref p)) => some p | _ => none) | _ => none) = some p := h
  split at h
  · rename_i j e
    split at h
    · rename_i q e2; cases h; exact ⟨j, e, e2⟩
    · cases h
  · cases h
theorem callFr_of {F H : Hp} {σ : L2.St} {ar : List Ar} {i j p : Nat} (h : ar[i]? = some (.c j)) (h2 : σ[j]? = some (some (.ref p))) : (callFr F H σ ar).pa i = some p := by
  show (match ar[i]? with | some (.c j) => (match σ[j]? with | some (some (.ref p)) => some p | _ => none) | _ => none) = some p
  rw [h]
  show (match σ[j]? with | some (some (.ref p)) => some p | _ => none) = some p
  rw [h2]
open Classical in
theorem callFr_P {F H : Hp} {σ : L2.St} {ar : List Ar} {b : Addr} (h : ∀ i, (callFr F H σ ar).pa i ≠ some b) : (callFr F H σ ar).P b = H b := by
  show (if ∃ i, (callFr F H σ ar).pa i = some b then none else H b) = H b
  exact if_neg (fun ⟨i, e⟩ => h i e)
open Classical in
theorem callFr_N {F H : Hp} {σ : L2.St} {ar : List Ar} {b : Addr} {i : Nat} (h : (callFr F H σ ar).pa i = some b) : (callFr F H σ ar).P b = none := by
  show (if ∃ i, (callFr F H σ ar).pa i = some b then none else H b) = none
  exact if_pos ⟨i, h⟩
/-- into a call -/
theorem Rel.enter {vs : List V} {ar : List Ar} {ss : List Sl} (S : Rel K ct fr F H σ ρ) (r : RAs K ct.ad F σ vs ar) (e : argSl ρ ar = some ss) (nd : (celsOf ar).Nodup) : Rel K (cx ct.ad) (callFr F H σ ar) F H (vs.map some) ss := by
  have ls := argSl_len e
  have lv := r.len
  have cel : ∀ {i : Nat} {k : CK} {c : CC}, ss[i]? = some (.cel k c) → k = .par ∧ ∃ j k0 p, ar[i]? = some (.c j) ∧ ρ[j]? = some (.cel k0 c) ∧ σ[j]? = some (some (.ref p)) ∧ vs[i]? = some (.ref p) ∧ F p = none ∧ CelR K ct.ad F H p c := fun {i k c} z => by
    have l := (List.getElem?_eq_some_iff.mp z).1
    rcases argSl_get (i := i) e (by omega) with ⟨d, h1, h2⟩ | ⟨j, k0, c0, h1, h2, h3⟩
    · rw [z] at h2; cases h2
    · rw [z] at h3
      cases h3
      obtain ⟨v, g1, g2⟩ := r.get h1
      obtain ⟨o, q1, p, q2, q3, q4, q5, q6, q7⟩ := S.slot j _ h2
      subst q2
      have g2 : σ[j]? = some (some v) := g2
      rw [q1] at g2
      cases g2
      exact ⟨rfl, j, k0, p, h1, h2, q1, g1, q3, q7⟩
  refine ⟨by rw [List.length_map]; omega, S.fh, fun i s z => ?_, fun i i' k c k' c' p z1 z2 z3 z4 => ?_, fun b o z => ?_, fun b _ z => z, fun i p z => ?_⟩
  · have l := (List.getElem?_eq_some_iff.mp z).1
    rcases argSl_get (i := i) e (by omega) with ⟨d, h1, h2⟩ | ⟨j, k0, c0, h1, h2, h3⟩
    · rw [z] at h2
      cases h2
      obtain ⟨v, g1, g2⟩ := r.get h1
      exact ⟨some v, by rw [List.getElem?_map, g1]; rfl, v, rfl, g2⟩
    · rw [z] at h3
      cases h3
      obtain ⟨_, j', k0', p, a1, a2, a3, a4, a5, a6⟩ := cel z
      have pa := callFr_of (F := F) (H := H) a1 a3
      exact ⟨some (.ref p), by rw [List.getElem?_map, a4]; rfl, p, rfl, a5, callFr_N pa, fun _ => pa, (fun w => by cases w), a6⟩
  ·
    obtain ⟨_, j, k0, p1, a1, a2, a3, a4, _⟩ := cel z1
    obtain ⟨_, j', k0', p2, b1, b2, b3, b4, _⟩ := cel z2
    rw [List.getElem?_map, a4] at z3
    rw [List.getElem?_map, b4] at z4
    cases z3
    cases z4
    have := S.dis j j' _ _ _ _ _ a2 b2 a3 b3
    subst this
    exact celsOf_inj nd a1 b1
  · by_cases w : ∃ i, (callFr F H σ ar).pa i = some b
    · obtain ⟨i, w⟩ := w; rw [callFr_N w] at z; cases z
    · rw [callFr_P (fun i q => w ⟨i, q⟩)] at z; exact z
  · obtain ⟨j, h1, h2⟩ := callFr_pa z
    have l := (List.getElem?_eq_some_iff.mp h1).1
    rcases argSl_get (i := i) e l with ⟨d, g1, g2⟩ | ⟨j', k0, c0, g1, g2, g3⟩
    · rw [h1] at g1; cases g1
    · exact ⟨.par, c0, g3, rfl⟩
/-- out of a call -/
theorem Rel.leave {vs : List V} {ar : List Ar} {ss ss' : List Sl} (S : Rel K ct fr F H σ ρ) (r : RAs K ct.ad F σ vs ar) (e : argSl ρ ar = some ss) (s : Same F F') (R : Rel K (cx ct.ad) (callFr F H σ ar) F' H' (vs.map some) ss') :
    Rel K ct fr F' H' σ (back ρ ar ss') ∧ ∀ p c, Fresh K ct.ad (callFr F H σ ar) F' H' (vs.map some) ss' p c → Fresh K ct.ad fr F' H' σ (back ρ ar ss') p c := by
  have lv := r.len
  -- what stands at a passed cell
  have passed : ∀ {q b : Nat}, (callFr F H σ ar).pa q = some b → ∃ j k c, ar[q]? = some (.c j) ∧ σ[j]? = some (some (.ref b)) ∧ ρ[j]? = some (.cel k c) := fun {q b} z => by
    obtain ⟨j, h1, h2⟩ := callFr_pa z
    rcases argSl_get (i := q) e (List.getElem?_eq_some_iff.mp h1).1 with ⟨d, g1, g2⟩ | ⟨j', k0, c0, g1, g2, g3⟩
    · rw [h1] at g1; cases g1
    · rw [h1] at g1; cases g1; exact ⟨j, k0, c0, h1, h2, g2⟩
  have notP : ∀ {b : Addr} {o : HO}, fr.P b = some o → ∀ q, (callFr F H σ ar).pa q ≠ some b := fun {b o} z q w => by
    obtain ⟨j, k, c, h1, h2, h3⟩ := passed w
    obtain ⟨o', q1, p, q2, q3, q4, q5, q6, q7⟩ := S.slot j _ h3
    rw [q1] at h2
    cases q2
    cases h2
    rw [q4] at z
    cases z
  have bk : ∀ {i : Nat} {k : CK} {c : CC}, (back ρ ar ss')[i]? = some (.cel k c) → ∃ c0, ρ[i]? = some (.cel k c0) := fun {i k c} z => by
    rw [back_get] at z
    cases q : ρ[i]? with
    | none => rw [q] at z; cases z
    | some x =>
      rw [q] at z
      cases x <;> simp only [Option.map_some, Option.some.injEq] at z <;> try cases z
      exact ⟨_, rfl⟩
  have lenb : (back ρ ar ss').length = ρ.length := by
    have h1 : ∀ i, (back ρ ar ss')[i]? = none ↔ ρ[i]? = none := fun i => by rw [back_get]; cases ρ[i]? <;> simp
    have a := (h1 ρ.length).mpr (by simp)
    have b := (h1 (back ρ ar ss').length).mp (by simp)
    rw [List.getElem?_eq_none_iff] at a b
    omega
  refine ⟨⟨by rw [lenb]; exact S.len, R.fh, fun i s0 z => ?_, fun i j k c k' c' p z1 z2 z3 z4 => ?_, fun b o z => ?_, fun b hb h0 => ?_, fun i p z => ?_⟩, fun p c f => ?_⟩
  · rw [back_get] at z
    cases q : ρ[i]? with
    | none => rw [q] at z; cases z
    | some x =>
      rw [q] at z
      obtain ⟨o, g1, g2⟩ := S.slot i x q
      refine ⟨o, g1, ?_⟩
      cases x with
      | un => cases z; trivial
      | dat d => cases z; obtain ⟨v, a1, a2⟩ := g2; exact ⟨v, a1, a2.mono s⟩
      | exn c pl => cases z; exact ⟨g2.1, g2.2.1, g2.2.2.mono s⟩
      | cel k c0 =>
        simp only [Option.map_some, Option.some.injEq] at z
        subst z
        obtain ⟨p, a1, a2, a3, a4, a5, a6⟩ := g2
        subst a1
        cases hn : newc ar ss' i with
        | some c' =>
          obtain ⟨w, k1, h1, h2⟩ := newc_some hn
          have pa := callFr_of (F := F) (H := H) h1 g1
          obtain ⟨o1, b1, p1, b2, b3, b4, b5, b6, b7⟩ := R.slot w _ h2
          obtain ⟨k2, c2, d1, d2⟩ := R.pcs w p pa
          rw [h2] at d1
          cases d1
          have := b5 d2
          rw [pa] at this
          cases this
          exact ⟨_, rfl, b3, a3, a4, a5, b7⟩
        | none =>
          have np : ∀ w, (callFr F H σ ar).pa w ≠ some p := fun w y => by
            obtain ⟨j, k2, c2, h1, h2, h3⟩ := passed y
            have := S.dis i j _ _ _ _ p q h3 g1 h2
            subst this
            obtain ⟨k3, c3, d1, d2⟩ := R.pcs w p y
            obtain ⟨c4, d3⟩ := newc_of h1 d1
            rw [hn] at d3
            cases d3
          obtain ⟨u, hu⟩ := a6.at
          have hP : (callFr F H σ ar).P p = some u := by rw [callFr_P np, hu]
          have h' := R.keep p u hP
          have f' : F' p = none := R.fro p (by rw [hP]; simp) a2
          exact ⟨p, rfl, f', a3, a4, a5, a6.keep s (by rw [h', hu])⟩
  · obtain ⟨_, y1⟩ := bk z1
    obtain ⟨_, y2⟩ := bk z2
    exact S.dis i j _ _ _ _ p y1 y2 z3 z4
  · exact R.keep b o (by rw [callFr_P (notP z)]; exact S.keep b o z)
  · have fb := S.fro b hb h0
    cases w : fr.P b with
    | none => exact absurd w hb
    | some o => exact R.fro b (by rw [callFr_P (notP w), S.keep b o w]; simp) fb
  · obtain ⟨k, c, h1, h2⟩ := S.pcs i p z
    refine ⟨k, (newc ar ss' i).getD c, ?_, h2⟩
    rw [back_get, h1]; rfl
  · obtain ⟨f1, f2, f3, f4, f5⟩ := f
    have hp : H p = none := by rw [← callFr_P f3]; exact f2
    refine ⟨f1, S.np hp, fun j w => ?_, f4, fun i k c' z1 z2 => ?_⟩
    · obtain ⟨k, c1, h1, h2⟩ := S.pcs j p w
      obtain ⟨o, g1, p', g2, g3, g4, g5, g6, g7⟩ := S.slot j _ h1
      have := g5 h2
      rw [w] at this
      cases this
      obtain ⟨u, hu⟩ := g7.at
      rw [hp] at hu
      cases hu
    · obtain ⟨c0, y⟩ := bk z1
      obtain ⟨p', o', y1, y2⟩ := S.cell_at y
      rw [y1] at z2
      cases z2
      rw [hp] at y2
      cases y2
/-- a callee's promise at its arguments -/
theorem Tat.call {n : Nat} {G : Fn} {vs : List V} {ar : List Ar} {Q : VK} {E : XK} (h : Tat K ct (RV K ct.ad) W fr F ρ (callG n G ar) σ Q) (S : Rel K ct fr F H σ ρ) (r : RAs K ct.ad F σ vs ar) (hE : ∀ cls d H', W cls d σ H' → E cls d H') : spP K ct.ad n G vs H Q E := by
  obtain ⟨x, ρ', e, q⟩ := h
  unfold callG at e
  split at e
  · cases e
  · rename_i ss es
    split at e
    · rename_i nd0
      obtain ⟨hn, nd⟩ := nd0
      split at e
      · cases e
      · rename_i y ss' eg
        cases e
        refine ⟨by rw [r.len]; exact hn, callFr F H σ ar, F, ss, S.enter r es nd, fun b hb => callFr_P hb, rfl, x, ss', eg, ?_⟩
        cases x with
        | er c pl =>
          intro d F' H' s' R pr
          exact hE _ _ _ (q d F' H' s' (S.leave r es s' R).1 pr)
        | ok rv =>
          intro v F' H' s' R rr
          obtain ⟨z1, z2⟩ := S.leave r es s' R
          refine q v F' H' s' z1 ?_
          cases rv with
          | d d => exact rr
          | c c => obtain ⟨p, ev, fp⟩ := rr; exact ⟨p, ev, z2 p c fp⟩
    · cases e
end PL
end
section
namespace OW
open PySem PySem.Spec PyProof.Rows L2
/-- what the operators of the class at C ask -/
def rOwn2 (C : Addr) (sp : Sp) (E : XK) : R2 := fun x y H Q => ∃ a dx fs b dy gs, x = .ref a ∧ y = .ref b ∧ H a = some (.ins C dx fs) ∧ H b = some (.ins C dy gs) ∧ sp [x, y] H Q E
def rOwn1 (C : Addr) (sp : Sp) (E : XK) : V → Hp → VK → Prop := fun x H Q => ∃ a dx fs, x = .ref a ∧ H a = some (.ins C dx fs) ∧ sp [x] H Q E
section
variable {X : Cx} {CX : CXT} {k : Nat} {C f : Addr} {fd : FuncData} {ps : List Str} {sp : Sp} {E : XK}
theorem inst {pins : List (Addr × Obj)} {σ : L2.St} {H : Hp} {s : Shared} {a dx : Addr} {fs : List (Str × V)} (I : Inv X pins σ H s) (e : H a = some (.ins C dx fs)) : ∃ ox od, PySem.W.InstAt s.heap a ox C od := by
  exact let ⟨_, O, _⟩ := ins_get I.hok e; let ⟨od, J, _⟩ := O.look; ⟨_, od, J⟩
theorem op_bin {op : Operator} {m : Str} (hm : m = PySem.dunder op.info.2) (M : Meth X.K C m f) (hc : PySem.W.selfFirst X.K C = true) (F : FnOk X.prog X.w X.K X.mg X.base CX k f fd ps sp) (hr : Room k X.A) (hb : Binds X.K fd ps []) (hx : Passes CX X E) :
    OpR X (binaryOp op) (rOwn2 C sp E) := by
  intro pn s σ H x y v u Q I rx ry ⟨a, dx, fs, b, dy, gs, ex, ey, ha, hb', q⟩
  subst ex ey
  cases rx; cases ry
  obtain ⟨ox, od, J⟩ := inst I ha
  obtain ⟨oy, od', J'⟩ := inst I hb'
  obtain ⟨m', hF⟩ := I.fr
  subst hm
  refine PySem.W.binop_K hF I.ok.mod.kin J J'.type hc M.at_ M.fn ?_
  refine wpAny_mono (run_fn (us := [.ref a, .ref b]) (vs := [.ref a, .ref b]) F hr hb .nil hx I (.cons rfl (.cons rfl .nil)) q) (fun w s' z => ?_) fun _ _ x => x
  exact let ⟨z1, H1, J1, r1, q1⟩ := z; SlX.cmpback r1 ⟨z1, H1, J1, r1, q1⟩
theorem op_cmp {op : CmpOp} {m : Str} (hm : m = (PySem.cmpInfo op).2.1) (hop : ∀ a b, compareOp op a b = richCompare op a b) (M : Meth X.K C m f) (hn : PySem.W.notFirst X.K C (.ref C) = true) (F : FnOk X.prog X.w X.K X.mg X.base CX k f fd ps sp) (hr : Room k X.A) (hb : Binds X.K fd ps []) (hx : Passes CX X E) :
    OpR X (compareOp op) (rOwn2 C sp E) := by
  intro pn s σ H x y v u Q I rx ry ⟨a, dx, fs, b, dy, gs, ex, ey, ha, hb', q⟩
  subst ex ey
  cases rx; cases ry
  obtain ⟨ox, od, J⟩ := inst I ha
  obtain ⟨oy, od', J'⟩ := inst I hb'
  obtain ⟨m', hF⟩ := I.fr
  subst hm
  rw [hop]
  refine PySem.W.cmp_K (op := op) (tb := .ref C) hr.units0 hF I.ok.mod.kin J J'.type hn M.at_ M.fn ?_
  refine wpAny_mono (run_fn (us := [.ref a, .ref b]) (vs := [.ref a, .ref b]) F hr hb .nil hx I (.cons rfl (.cons rfl .nil)) q) (fun w s' z => ?_) fun _ _ x => x
  exact let ⟨z1, H1, J1, r1, q1⟩ := z; SlX.cmpback r1 ⟨z1, H1, J1, r1, q1⟩
theorem un_neg {m : Str} (hm : m = "__neg__") (M : Meth X.K C m f) (F : FnOk X.prog X.w X.K X.mg X.base CX k f fd ps sp) (hr : Room k X.A) (hb : Binds X.K fd ps []) (hx : Passes CX X E) : UnR X (unaryOp .USub) (rOwn1 C sp E) := by
  intro pn s σ H x v Q I rx ⟨a, dx, fs, ex, ha, q⟩
  subst ex
  cases rx
  obtain ⟨ox, od, J⟩ := inst I ha
  obtain ⟨m', hF⟩ := I.fr
  subst hm
  refine PySem.W.ksp_neg hF I.ok.mod.kin J M.at_ M.fn ?_
  exact run_fn (us := [.ref a]) (vs := [.ref a]) F hr hb .nil hx I (.cons rfl .nil) q
/-- x in o, o of the class at C: its __contains__ gives a bool -/
def rInOwn (C : Addr) (sp : Sp) (E : XK) (neg : Bool) : R2 := fun y x H Q => ∃ a dx fs, x = .ref a ∧ H a = some (.ins C dx fs) ∧ sp [x, y] H (fun z H' => ∃ b, z = .bl b ∧ Q (.bl (if neg then !b else b)) H') E
theorem op_in {m : Str} (hm : m = "__contains__") (M : Meth X.K C m f) (F : FnOk X.prog X.w X.K X.mg X.base CX k f fd ps sp) (hr : Room k X.A) (hb : Binds X.K fd ps []) (hx : Passes CX X E) : OpR X (compareOp .In) (rInOwn C sp E false) := by
  intro pn s σ H y x v u Q I ry rx ⟨a, dx, fs, ex, ha, q⟩
  subst ex
  cases rx
  obtain ⟨ox, od, J⟩ := inst I ha
  obtain ⟨m', hF⟩ := I.fr
  subst hm
  refine PySem.W.in_K hF I.ok.mod.kin J M.at_ M.fn ?_
  refine wpAny_mono (run_fn (us := [.ref a, v]) (vs := [.ref a, y]) F hr hb .nil hx I (.cons rfl (.cons ry .nil)) q) (fun w s' z => ?_) fun _ _ x => x
  obtain ⟨z', H', I', rz, b, eb, qz⟩ := z
  subst eb
  cases (show w = Value.bool b from rz)
  exact wpAny_truthy_bool ⟨.bl b, H', I', rfl, qz⟩
end
end OW
namespace OW
open PySem PySem.Spec PyProof.Rows L2
/-- // by any divisor but 0 below 2 ^ 9000 -/
def CDivA (_ j : Int) : Prop := j ≠ 0 ∧ j.natAbs.log2 < 9000
def wInt1 : List V → Hp → VK → Prop := fun xs H Q => (∃ i, xs = [.int i] ∧ Q (.int i) H) ∨ ∃ k, xs = [.bl k] ∧ Q (.int (if k = true then 1 else 0)) H
def wAbs : List V → Hp → VK → Prop := fun xs H Q => ∃ i, xs = [.int i] ∧ Q (.int (if i < 0 then -i else i)) H
def wMax2 : List V → Hp → VK → Prop := fun xs H Q => ∃ i j, xs = [.int i, .int j] ∧ Q (.int (if j > i then j else i)) H
def wMin2 : List V → Hp → VK → Prop := fun xs H Q => ∃ i j, xs = [.int i, .int j] ∧ Q (.int (if j < i then j else i)) H
def wStrI : List V → Hp → VK → Prop := fun xs H Q => ∃ i, xs = [.int i] ∧ i.natAbs.log2 < 1920 ∧ Q (.str (toString i)) H
def wLen (K : PySem.W.Frag) : List V → Hp → VK → Prop := fun xs H Q => ∃ p ys, xs = [.ref p] ∧ (SqL K H p ys ∨ SqT K H p ys) ∧ Q (.int ys.length) H
def wLenS : List V → Hp → VK → Prop := fun xs H Q => ∃ z, xs = [.str z] ∧ z.length ≤ sizeLine ∧ Q (.int z.length) H
def wAddS : R2 := fun x y H Q => ∃ i j, x = .str i ∧ y = .str j ∧ i.length + j.length ≤ sizeLine ∧ Q (.str (i ++ j)) H
/-- isinstance of the exception that a suite holds (its class has no own __init__) -/
def rIsEE (K : PySem.W.Frag) (a : Addr) (cls : Value) (d : Option Addr) : List V → Hp → VK → Prop := fun xs H Q => ∃ (D : Addr) (c : V) (cv : Value) (b : Bool), xs = [.ref a, c] ∧ cls = .ref D ∧ (d = none ∨ ∃ dx fs, d = some dx ∧ H dx = some (.xd fs)) ∧ ExcC K D ∧ (∀ u, RelV c u → u = cv) ∧ PySem.W.kitOne K (.ref D) cv = some b ∧ Q (.bl b) H
section
variable {X : Cx}
theorem op_fdivA : OpR X (binaryOp .FloorDiv) (rI CDivA fun i j => .int (i.fdiv j)) := opI fun i j _ _ _ _ _ hc q => floordiv_int hc.1 q (.inl (PyProof.noPylong_of_log2 hc.2))
theorem c_int1 : CallR X (.type "int") wInt1 := call_int1
theorem c_abs : CallR X (.builtin "abs") wAbs := call_abs
theorem c_max2 (hc : X.calm = true) : CallR X (.builtin "max") wMax2 := call_max2 hc
theorem c_min2 (hc : X.calm = true) : CallR X (.builtin "min") wMin2 := call_min2 hc
theorem c_strI : CallR X (.type "str") wStrI := call_str_int
theorem c_len : CallR X (.builtin "len") (wLen X.K) := call_len_seq
theorem c_lenS : CallR X (.builtin "len") wLenS := call_len_str
theorem op_addS : OpR X (binaryOp .Add) wAddS := op_add_str
theorem c_isEE {a : Addr} {oe : Obj} {cls : Value} {d : Option Addr} {pn : List (Addr × Obj)} (hz : Zc cls d oe) (hf : ∃ vs, oe.data = .fields vs) : CallR (X.suite a ((a, oe) :: pn)) (.builtin "isinstance") (rIsEE X.K a cls d) := by
  intro pn s σ H xs us Q I r ⟨D, c, cv, b, ex, ec, ed, hE, hc, e, q⟩
  subst ex ec
  rcases ed with ed | ⟨dx, fs, ed, hx⟩
  · subst ed
    exact call_isE hE hz hf pn s σ H _ us Q I r ⟨c, cv, b, rfl, hc, e, q⟩
  · subst ed
    cases r with
    | cons rx rr =>
      cases rr with
      | cons rt rr =>
        cases rr
        cases rx
        have ecv := hc _ rt
        subst ecv
        (obtain ⟨hget, _⟩ := I.pin (a, oe) (List.mem_append.mpr (.inl List.mem_cons_self)))
        obtain ⟨vs, hv⟩ := hf
        have hxo : ObjOk X.prog X.w H s.heap dx (.xd fs) := I.hok dx _ hx
        obtain ⟨mA, ⟨od, _, _, hod, _⟩, _⟩ := hxo
        have J : PySem.W.InstAt s.heap a oe D (some od) := by
          obtain ⟨oc, odd, oda, osl⟩ := oe
          obtain ⟨h1, h2⟩ := hz
          dsimp only at h1 h2 hv
          subst h1 h2 hv
          exact ⟨hget, rfl, rfl, hod⟩
        have hcl : (PySem.W.clsIn X.K D).isSome = true := by
          obtain ⟨cd, hcd, _⟩ := PySem.W.any_some hE.hd
          rw [hcd]
          rfl
        exact PySem.W.kia_one (PySem.W.kitx_exc hcl hE.hg hE.hk hE.hs hE.ha hE.hn hE.ht hE.hm) I.kIn J e (fun z => nomatch z) fun tk => ⟨.bl b, H, I.kept (t' := tk) fun _ _ z => z, rfl, q⟩
end
/-- C(e, ..) in the body of a try: what its __init__ lets out meets the wish at the slots as they stand -/
def tMakeS (C : Addr) (sp : Sp) (dvs : List V) (E : L2.St → XK) (t : TA) : TE := fun σ H Q =>
  t σ H fun vs G => ∀ o d, G o = none → G d = none → d ≠ o →
    sp (.ref o :: (vs ++ dvs)) (upd (upd G d (.own o)) o (.ins C d [])) (fun v G' => v = .non ∧ Q (.ref o) G') (E σ)
section
variable {X : Cx} {CX : CXT} {k : Nat} {C f : Addr} {fd : FuncData} {ps : List Str} {sp : Sp} {ds : List Value} {dvs : List V}
/-- the new object and its dict are the heap's next two places -/
theorem run_makeS {pn : List (Addr × Obj)} {σ : L2.St} {G : Hp} {s : Shared} {Q : VK} {us : List Value} {vs : List V} {E : XK}
    (M : Mk X.K C f) (F : FnOk X.prog X.w X.K X.mg X.base CX k f fd ps sp) (room : Room (k + 1) X.A) (bd : Binds X.K fd ps ds) (vd : Vals dvs ds) (px : PassesAt CX X σ E) (I : Inv X pn σ G s) (rv : Vals vs us)
    (want : ∀ o d, G o = none → G d = none → d ≠ o → sp (.ref o :: (vs ++ dvs)) (upd (upd G d (.own o)) o (.ins C d [])) (fun v G' => v = .non ∧ Q (.ref o) G') E) :
    wpAny (model X.prog X.w) X.A (call (.ref C) us) (EP X pn σ Q) X.xe s := by
  let d := s.heap.objs.size
  let o := d + 1
  have fresh : ∀ a, d ≤ a → G a = none := fun a h => I.hok.fresh h
  have w0 := want o d (fresh o (Nat.le_succ d)) (fresh d (Nat.le_refl d)) (Nat.ne_of_lt (Nat.lt_succ_self d))
  have I1 := I.made (C := C)
  have rall : Vals (V.ref o :: (vs ++ dvs)) (Value.ref o :: (us ++ ds)) := .cons rfl (rv.append vd)
  have len : (Value.ref o :: us ++ ds).length = ps.length := rall.length.symm.trans (F.len _ _ _ _ w0)
  have body := F.run _ X.stack _ _ ⟨Value.ref o :: us, []⟩ (Value.ref o :: (us ++ ds)) _ _ E (room.make C us []) (I1.env0.make C us []) (bd _ (Value.ref o :: us) I1.kIn len) rall w0
  refine wpAny_call (make_map (f := f) I.kIn M.makes M.init (beq_iff_eq.mp M.fn) (codeAny_mono body ?_))
  rintro (er | fl) s1 h1
  · exact px pn _ _ er s1 I1 h1
  · cases fl with
    | ret u => exact let ⟨_, G1, J, ru, ev, q⟩ := I1.after h1; ⟨by subst ev; exact ru, .ref o, G1, J, rfl, q⟩
    | _ => exact h1.elim
theorem pe_makeS {E : L2.St → XK} {x : Str} {p pos : Pos} {e : Expr} {es : List Expr} {t : TA} (M : Mk X.K C f) (F : FnOk X.prog X.w X.K X.mg X.base CX k f fd ps sp) (room : Room (k + 1) X.A) (hg : Gl X x) (hm : X.mg x = some (.ref C)) (bd : Binds X.K fd ps ds) (vd : Vals dvs ds)
    (px : ∀ σ, PassesAt CX X σ (E σ)) (args : PA X (e :: es) t)
    (nd : (x == ("__debug__" : Str)) = false := by decide) (h1 : starEach (e :: es) X.env = (false, eval e X.env) :: starEach es X.env := by rfl) (h2 : (backTo pos (starEach es X.env)).any (·.1) = false := by rfl) :
    PE X (.Call (.Name x p) (e :: es) [] pos) (tMakeS C sp dvs E t) where
  run pn s σ G Q I h := by
    refine wpAny_Call_Name_kw (ld_glob I hg hm ?_ nd)
    refine PySem.W.callWith_K (h₀ := X.base) I.ok.mod.kin M.kp ?_ h1 h2
    refine thn (args.run pos pn s σ G _ I h) ?_
    rintro us s1 ⟨_, _, J, rv, q⟩
    exact ⟨J.kIn, run_makeS M F room bd vd (px σ) J rv q⟩
end
end OW
namespace OW
open PySem PySem.Spec PyProof.Rows L2
def wFmt : V → Hp → VK → Prop := fun x H Q => (∃ y : Str, x = .str y ∧ y.length ≤ sizeLine ∧ Q (.str y) H) ∨ ∃ i : Int, x = .int i ∧ i.natAbs.log2 < 1920 ∧ Q (.str (toString i)) H
theorem pe_fmtU {X : Cx} {e : Expr} {te : TE} {pos : Pos} (he : PE X e te) : PE X (.FormattedValue e (-1) none pos) (tUn wFmt te) := pe_fmt he
end OW
namespace OW
open PySem PySem.Spec PyProof.Rows L2
section
variable {P : Program} {w : World} {K : PySem.W.Frag} {mg : Str → Option Value} {base : Heap} {x qual : Str} {st : Stmt} {dvs : List V} {kws : List (Str × V)} {f : Addr} {fd : FuncData} {N ps : List Str} {k : Nat} {sp : Sp}
/-- what is to be shown of a def's body: W its wish for exceptions -/
def BodyOk (P : Program) (w : World) (K : PySem.W.Frag) (mg : Str → Option Value) (base : Heap) (N : List Str) (qual : Str) (st : Stmt) (f : Addr) (k : Nat) (sp : Sp) (CX : CXT) (no : Bool) : Prop :=
  ∀ (cdv : Value) (A : Around) (outer : List Env) (s : Shared) (H : Hp) (vs : List V) (Q : VK) (E : XK),
    Room k (A.deeper (envOfC qual (defScope st) s.heap.objs.size f cdv)) → sp vs H Q E → ∃ t,
      (if no = true then PSs (cxOf CX P w K mg base N qual (defScope st) f cdv A outer s H E).nox (defBody st) t else PSs (cxOf CX P w K mg base N qual (defScope st) f cdv A outer s H E) (defBody st) t) ∧
      t { nx := fun _ H' => Q .non H', rt := Q } (start N vs) H
theorem okD (F : FunD K x qual (defArgs st) (defBody st) (defScope st) dvs kws f fd) (S : FnScope N ps (defScope st)) (len : ∀ vs H Q E, sp vs H Q E → vs.length = ps.length) (body : BodyOk P w K mg base N qual st f k sp CX0 true) : FnOk P w K mg base CX0 (k + 1) f fd ps sp :=
  F.ok S len fun cdv A outer s H vs Q E hr h => let ⟨t, h1, q⟩ := body cdv A outer s H vs Q E hr h; ⟨t, PSs.nox h1, q⟩
theorem okDX (F : FunD K x qual (defArgs st) (defBody st) (defScope st) dvs kws f fd) (S : FnScope N ps (defScope st)) (len : ∀ vs H Q E, sp vs H Q E → vs.length = ps.length) (body : BodyOk P w K mg base N qual st f k sp (L2.CX P w) false) : FnOk P w K mg base (L2.CX P w) (k + 1) f fd ps sp :=
  F.ok S len fun cdv A outer s H vs Q E hr h => let ⟨t, h1, q⟩ := body cdv A outer s H vs Q E hr h; ⟨t, h1, q⟩
end
end OW
namespace OW
open PySem PySem.Spec PyProof.Rows L2
/-! an instance that is walked: its __iter__ gives iter(its tuple) -/
/-- the tuple's iterator at its start -/
def TIt (t it : Addr) : HO := .ext fun h => h.IsTupleIter it t 0
theorem tit_ok {P : Program} {w : World} {H : Hp} {h : Heap} {t it : Addr} (e : h.IsTupleIter it t 0) : ObjOk P w H h it (TIt t it) := by
  obtain ⟨o, ho, z⟩ := id e
  exact ⟨e, ⟨o, ho⟩, fun h1 h2 q k => q.at k⟩
/-- a def whose promise knows how many places the heap has when it is entered -/
structure FnS (P : Program) (w : World) (K : PySem.W.Frag) (mg : Str → Option Value) (base : Heap) (k : Nat) (f : Addr) (fd : FuncData) (ps : List Str) (sp : Nat → Sp) : Prop where
  len : ∀ n vs H Q E, sp n vs H Q E → vs.length = ps.length
  run : ∀ (A : Around) (outer : List Env) (s : Shared) (H : Hp) (args : Args) (us : List Value) (vs : List V) (Q : VK) (E : XK), Room k A → Env0 P w K mg base A outer s H → BindsTo s fd args (ps.zip us) → Vals vs us →
    sp s.heap.objs.size vs H Q E → codeAny (model P w) A (.call (.ref f) args) (CR CX0 outer P w H s Q E) s
theorem okS {P : Program} {w : World} {K : PySem.W.Frag} {mg : Str → Option Value} {base : Heap} {x qual : Str} {st : Stmt} {f : Addr} {fd : FuncData} {N ps : List Str} {k : Nat} {sp : Nat → Sp} (F : L2.Fun K x qual st f fd) (S : FnScope N ps (defScope st))
    (len : ∀ n vs H Q E, sp n vs H Q E → vs.length = ps.length)
    (body : ∀ (cdv : Value) (A : Around) (outer : List Env) (s : Shared) (H : Hp) (vs : List V) (Q : VK) (E : XK), Room k (A.deeper (envOfC qual (defScope st) s.heap.objs.size f cdv)) → sp s.heap.objs.size vs H Q E →
      ∃ t, PSs (cxOf CX0 P w K mg base N qual (defScope st) f cdv A outer s H E).nox (defBody st) t ∧ t { nx := fun _ G => Q .non G, rt := Q } (start N vs) H) : FnS P w K mg base (k + 1) f fd ps sp := by
  obtain ⟨oc, od, kV, doc, pm, an, cdv, ct, osl, rfl, look, code⟩ := F.ex
  refine ⟨len, fun A outer s H args us vs Q E room env0 bnd rv want => ?_⟩
  have vl := len _ _ _ _ _ want
  have KX : K.In s.heap := env0.mod.kin.keeps fun b o q => (env0.bs b o q).1
  have free : s.heap.NoLimit := env0.mod.nolimit.keeps fun b o q => (env0.bs b o q).1
  have kinds : ∀ y ∈ ps.zip us, (defScope st).names.lookup y.1 = some .local ∨ ((defScope st).names.lookup y.1 = some .cell ∧ ((cellsFrom (s.heap.objs.size + 1) (defScope st).names []).lookup y.1).isSome = true) := by
    rintro ⟨n, v⟩ hy
    rcases S.par n (List.of_mem_zip hy).1 with z | z
    · exact .inl z
    · exact .inr ⟨z, PySem.W.cellsFrom_some _ _ _ (.inl z)⟩
  refine codeAny_call_function room.depth (KX _ _ look) rfl S.co S.gen rfl (PySem.W.codeRec_of KX code) (bnd _ _ _ _ ?_)
  refine wpAny_newFunctionEnv_cells S.kind kinds fun env he s1 inn => ?_
  subst he
  refine ⟨free.keeps inn.toInCall.keep, codeAny_func ?_⟩
  obtain ⟨t, ht, q⟩ := body cdv A outer s H vs Q E (room.deeper _) want
  have J : Inv (cxOf CX0 P w K mg base N qual (defScope st) f cdv A outer s H E) [] (start N vs) H s1 := inv_start S room.hd env0 vl rv inn
  refine wpAny_mono (ht.nox.run [] s1 (start N vs) H _ J q) (fun fl s2 out => ?_) fun e s2 out => out
  have fin : ∀ {τ : L2.St} {G : Hp} {v : V} {u : Value}, Inv (cxOf CX0 P w K mg base N qual (defScope st) f cdv A outer s H E) [] τ G s2 → RelV v u → Q v G → CE outer P w H s Q u s2 :=
    fun {τ G v u} I2 r q2 => ⟨v, G, I2.os, I2.bare, I2.base, I2.hok, r, q2⟩
  cases fl with
  | ret u =>
    obtain ⟨v, τ, G, I2, r, q2⟩ := out
    exact fin I2 r q2
  | next =>
    obtain ⟨τ, G, I2, q2⟩ := out
    exact fin (v := V.non) (u := Value.none) I2 rfl q2
  | brk =>
    obtain ⟨_, _, _, z⟩ := out
    exact z.elim
  | cont =>
    obtain ⟨_, _, _, z⟩ := out
    exact z.elim
def wIterT (K : PySem.W.Frag) (n : Nat) : List V → Hp → VK → Prop := fun xs H Q => ∃ (l : Addr) (zs : List V), xs = [.ref l] ∧ SqT K H l zs ∧ ∀ it, H it = none → n ≤ it → Q (.ref it) (upd H it (TIt l it))
theorem c_iterT {X : Cx} : CallR X (.builtin "iter") (wIterT X.K X.s_0.heap.objs.size) := by
  rintro pn s σ H xs us Q I r ⟨l, zs, rfl, hq, q⟩
  (obtain ⟨u, rfl, ru⟩ := vals1 r)
  cases ru
  obtain ⟨its, rv, pl, hz⟩ := I.tuple hq
  (refine Calls.call_function_entry (by decide +kernel) (by decide +kernel) PySem.W.kdk_entry_iter (PySem.W.kdk_args_iter _) ?_)
  unfold Builtin.«iter»
  (refine wpAny_bind (m := someArgs "iter" 1 2 _) (wpAny_of_eq (a := [Value.ref l]) (by first | rfl | kernel_rfl!) ?_))
  change wpAny _ _ (pyIter (.ref l) >>= _) _ _ _
  refine wpAny_bind (wpAny_pyIter_tuple (show s.heap.IsTuple l its.toArray from pl) ?_)
  (refine wpAny_pure ⟨_, rfl, ?_⟩)
  exact ⟨.ref s.heap.objs.size, _, I.laid (t' := s.toks) (fun b u e => Heap.get?_push_of_some _ e) (Nat.le_refl _) (tit_ok ⟨_, Heap.get?_push_size _ rfl, rfl, rfl⟩), rfl, q _ (I.hok.fresh (Nat.le_refl _)) I.sz⟩
def iOwn (K : PySem.W.Frag) (C : Addr) (sp : Nat → Sp) (ta : TE) : TI := fun σ H R => ta σ H fun x G => ∃ a dx fs, x = .ref a ∧ G a = some (.ins C dx fs) ∧
  ∀ n, sp n [.ref a] G (fun v G2 => ∃ it t, v = .ref it ∧ n ≤ it ∧ G it = none ∧ G2 = upd G it (TIt t it) ∧ R (Itt K t) G) E0
section
variable {X : Cx} {k : Nat} {C f : Addr} {fd : FuncData} {ps : List Str} {sp : Nat → Sp} {e tg : Expr} {ta : TE}
theorem pi_own (he : PE X e ta) (M : Meth X.K C "__iter__" f) (F : FnS X.prog X.w X.K X.mg X.base k f fd ps sp) (room : Room k X.A) (bd : Binds X.K fd ps []) : PI X tg e (iOwn X.K C sp ta) := by
  refine ⟨fun pn s σ H R I h => ?_⟩
  refine thn (he.run pn s σ H _ I h) fun u s1 ⟨x, G, I1, rx, a, dx, fs, ex, ea, q0⟩ => ?_
  subst ex
  cases rx
  have q := q0 s1.heap.objs.size
  obtain ⟨ox, od, J⟩ := inst I1 ea
  obtain ⟨m', hF⟩ := I1.fr
  refine PySem.W.owit_iter hF I1.ok.mod.kin J M.at_ M.fn ?_
  have len := (F.len _ _ _ _ _ q)
  refine wpAny_call (codeAny_mono (F.run X.A X.stack s1 G ⟨[.ref a], []⟩ [.ref a] [.ref a] _ E0 room I1.env0 (bd s1 [.ref a] I1.kIn (by simpa using len)) (.cons rfl .nil) q) fun r s2 hr => ?_)
  cases r with
  | error er => exact hr.elim
  | ok fl =>
    cases fl with
    | ret u =>
      obtain ⟨v, G3, I3, rv, it, t, ev, young, fr, eG, hR⟩ := I1.after hr
      subst ev eG
      cases rv
      have hx : upd G it (TIt t it) it = some (TIt t it) := upd_same
      have st : s2.heap.IsTupleIter it t 0 := (I3.hok it _ hx).1
      have tyI : s2.TypeIs (.ref it) "tuple_iterator" := st.typeIs
      change PySem.W.OwitIt _ _ _ _ (.ref it) s2
      unfold PySem.W.OwitIt
      refine wpAny_specialOf (name := "__next__") tyI PySem.F.slot_tuple_iterator_next.lookup ?_
      have I4 := ItX.inv_drop I3 hx
      have gone : ItX.dropH (upd G it (TIt t it)) it = G := ItX.dropH_upd fr
      rw [gone] at I4
      refine ⟨it, [it], _, _, G, rfl, I4, turn_tuple t it, st, fun b hb => ?_, hR⟩
      have eb : b = it := by simpa using hb
      subst eb
      have z := ItX.inv_fp I3 hx (Nat.le_trans I1.sz young)
      rwa [gone] at z
    | next => exact False.elim hr
    | brk => exact False.elim hr
    | cont => exact False.elim hr
end
/-! max(xs, default=d), sorted(d, reverse=True), min and max of three -/
def maxL (d : Int) : List Int → Int
  | [] => d
  | n :: ns => ns.foldl max n
section
variable {X : Cx}
theorem alike_ints (ns : List Int) : PySem.W.AlikeAll (ns.map PyData.int) := by
  refine ⟨fun x hx y hy => ?_, fun x hx => ?_⟩
  · obtain ⟨i, _, rfl⟩ := List.mem_map.mp hx
    obtain ⟨j, _, rfl⟩ := List.mem_map.mp hy
    rfl
  · obtain ⟨i, _, rfl⟩ := List.mem_map.mp hx
    exact fun z => nomatch z
theorem depth_ints : ∀ ns : List Int, PyData.depthAll (ns.map PyData.int) ≤ 1
  | [] => by decide
  | n :: ns => by
    show max (PyData.int n).depth (PyData.depthAll (ns.map PyData.int)) ≤ 1
    exact Nat.max_le.mpr ⟨by show PyData.depth (.int n) ≤ 1; unfold PyData.depth; decide, depth_ints ns⟩
def wMaxD (K : PySem.W.Frag) : List V → List V → Hp → VK → Prop := fun vs zs H Q => ∃ (a : Addr) (ns : List Int) (d : Int), vs = [.ref a] ∧ zs = [.int d] ∧ SqL K H a (ns.map V.int) ∧ Q (.int (maxL d ns)) H
theorem c_maxD (hc : X.calm = true) (hu : X.A.units + 64 < cLine) : CallRK X (.builtin "max") ["default"] (wMaxD X.K) := by
  rintro pn s σ H vs zs us ws Q I r rz ⟨a, ns, d, rfl, rfl, hs, q⟩
  obtain rfl := Vals.ref1 r
  (obtain ⟨w1, rfl, e1⟩ := vals1 rz)
  obtain ⟨tk1, rfl⟩ := e1
  (obtain ⟨its, rv, hl, hz⟩ := I.list hs)
  have hi := rv.ints
  have hd := depth_ints ns
  refine PySem.W.max_list_default (I.ok.hd hc) hl.isList (xs := ns.map PyData.int) (as := []) (by simpa using hi.reads s.heap) (alike_ints ns) (by omega) (fun e h' tk kp => ?_) (fun y ys i v h' tk bs e e2 rd kp => ?_)
  · have en : ns = [] := by simpa using e
    subst en
    exact ⟨.int d, H, I.kept kp, ⟨_, rfl⟩, q⟩
  · cases ns with
    | nil => cases e
    | cons n ns =>
      rw [List.map_cons] at e
      cases e
      rw [PySem.W.maxD_ints] at rd
      cases rd
      exact ⟨.int _, H, I.kept kp, ⟨_, rfl⟩, q⟩
def wMin3 : List V → Hp → VK → Prop := fun xs H Q => ∃ i j k : Int, xs = [.int i, .int j, .int k] ∧ Q (.int (min i (min j k))) H
def wMax3 : List V → Hp → VK → Prop := fun xs H Q => ∃ i j k : Int, xs = [.int i, .int j, .int k] ∧ Q (.int (max i (max j k))) H
theorem vals3' {a b c : V} {us : List Value} (r : Vals [a, b, c] us) : ∃ x y z, us = [x, y, z] ∧ RelV a x ∧ RelV b y ∧ RelV c z := by
  cases r with
  | cons p r => cases r with
    | cons p2 r => cases r with
      | cons p3 r =>
        cases r
        exact ⟨_, _, _, rfl, p, p2, p3⟩
theorem c_min3 (hc : X.calm = true) : CallR X (.builtin "min") wMin3 := by
  rintro pn s σ H xs us Q I r ⟨i, j, k, rfl, q⟩
  obtain ⟨_, _, _, rfl, ⟨t1, rfl⟩, ⟨t2, rfl⟩, ⟨t3, rfl⟩⟩ := vals3' r
  refine PySem.min_three_ints (I.ok.hd hc) fun h' tk kp => ?_
  have e : (if j < i then (if k < j then Value.int k t3 else .int j t2) else (if k < i then .int k t3 else .int i t1)) = .int (min i (min j k)) (if j < i then (if k < j then t3 else t2) else (if k < i then t3 else t1)) := by
    split <;> split <;> (congr 1; omega)
  rw [e]
  exact ⟨.int _, H, I.kept kp, ⟨_, rfl⟩, q⟩
theorem c_max3 (hc : X.calm = true) : CallR X (.builtin "max") wMax3 := by
  rintro pn s σ H xs us Q I r ⟨i, j, k, rfl, q⟩
  obtain ⟨_, _, _, rfl, ⟨t1, rfl⟩, ⟨t2, rfl⟩, ⟨t3, rfl⟩⟩ := vals3' r
  refine PySem.max_three_ints (I.ok.hd hc) fun h' tk kp => ?_
  have e : (if j > i then (if k > j then Value.int k t3 else .int j t2) else (if k > i then .int k t3 else .int i t1)) = .int (max i (max j k)) (if j > i then (if k > j then t3 else t2) else (if k > i then t3 else t1)) := by
    split <;> split <;> (congr 1; omega)
  rw [e]
  exact ⟨.int _, H, I.kept kp, ⟨_, rfl⟩, q⟩
def wSortDR : List V → List V → Hp → VK → Prop := fun vs zs H Q => ∃ (a : Addr) (kvs : List (Key × V)) (ks : List Int), vs = [.ref a] ∧ zs = [.bl true] ∧ Rd H a (.dK kvs) ∧ kvs.map (·.1) = ks.map Sum.inl ∧
  ∀ (ys : List Int) (p : Addr), ys.Perm ks → ys.Pairwise (· ≥ ·) → H p = none → Q (.ref p) (upd H p (.lst (ys.map V.int)))
theorem c_sortDR (hc : X.calm = true) : CallRK X (.builtin "sorted") ["reverse"] wSortDR := by
  rintro pn s σ H vs zs us ws Q I r rz ⟨a, kvs, ks, rfl, rfl, hd, hk, q⟩
  obtain rfl := Vals.ref1 r
  (obtain ⟨w1, rfl, e1⟩ := vals1 rz)
  (obtain rfl : w1 = Value.bool true := e1)
  (obtain ⟨z, lo, vs, rel, dd⟩ := dk_rd I.hok hd)
  obtain ⟨ep, at_⟩ := dd.dictAt
  have keys : vs.map (·.1) = ks.map Sum.inl := rel.keys.symm.trans hk
  have same : vs.length = ks.length := by simpa using congrArg List.length keys
  have small : vs.length ≤ sizeLine := by rw [← rel.length]; exact z
  refine PyProof.Rows.call_function_entry_kw PyProof.Rows.kind_sorted PyProof.Rows.plain_sorted PyProof.Rows.entry_sorted (PyProof.Rows.args_sorted_rev _ _) ?_
  unfold Builtin.«sorted»
  (refine wpAny_bind (m := checkCount "sorted" 1 1 _) (wpAny_pure ?_))
  refine wpAny_bind (PySem.W.kdu_collect (A := X.A.in1) (PySem.W.kdl_dict (knd := mixKind X.prog X.w) (kvs := vs) (ep := ep) lo) (I.ok.hd hc) at_ small fun h' tk acc kp hacc => ?_)
  have alen : acc.toList.length = ks.length := by rw [Array.length_toList, hacc.1, same]
  have arei : IntsAre acc.toList ks := ints_each alen fun j v e => by
    obtain ⟨kk, x, e1, e2⟩ := hacc.2 j v (by rw [← Array.getElem?_toList]; exact e)
    have e3 : (vs.map (·.1))[j]? = some kk := by rw [List.getElem?_map, e1]; rfl
    rw [keys, List.getElem?_map] at e3
    cases e4 : ks[j]? with
    | none =>
      rw [e4] at e3
      exact nomatch e3
    | some y =>
      rw [e4] at e3
      have e5 : Sum.inl y = kk := Option.some.inj e3
      subst e5
      rcases keyIs_shape (show keyIs (Sum.inl y) v = true from e2) with ⟨i, t, e6, e7⟩ | ⟨i, t, e6, e7⟩
      · cases e6
        exact ⟨y, t, rfl, e7⟩
      · cases e6
  have I1 : Inv X pn σ H { s with heap := h', toks := tk } := I.kept kp
  have fits : acc.toList.length ≤ sizeLine := by rw [alen, ← same]; exact small
  refine wpAny_bind (wpAny_newList ?_ fits)
  have there : (h'.push (seqObj "list" acc.toList.toArray 0)).get? h'.objs.size = some (seqObj "list" acc.toList.toArray 0) := Heap.get?_push_size _ rfl
  change wpAny _ _ _ _ _ { s with heap := h'.push (seqObj "list" acc.toList.toArray 0), toks := tk }
  refine wpAny_bind (wpAny_holding (PyProof.Rows.wpAny_call_entry_kw PyProof.Rows.slot_list_sort ⟨_, there, rfl⟩ PyProof.Rows.entry_list_sort ?_ (PyProof.Rows.args_list_sort_rev _ _)))
  refine SrtR.list_sort_ordR (s := { s with heap := h'.push (seqObj "list" acc.toList.toArray 0), toks := tk }) (b := true) SrtO.swo_int there fits (fun h2 => SrtO.ints_sortable arei h2) fun out o1 o2 => ⟨_, rfl, ?_⟩
  obtain ⟨ys, y1, y2, y3⟩ := SrtR.ints_outR (b := true) arei o1 o2
  obtain ⟨e', he'⟩ := PyProof.Rows.sortedHeap_at (vs := acc.toList) (out := out.toArray.reverse) there
  have hlen : (ys.map V.int).length ≤ sizeLine := by rw [List.length_map, y2.length_eq, ← alen]; exact fits
  have ok2 : ObjOk X.prog X.w (upd H h'.objs.size (.lst (ys.map V.int))) (PyProof.Rows.sortedHeap (h'.push (seqObj "list" acc.toList.toArray 0)) h'.objs.size acc.toList out.toArray.reverse) h'.objs.size (.lst (ys.map V.int)) :=
    ⟨hlen, out.toArray.reverse.toList, e', vals_of_ints y1, by rw [Array.toArray_toList]; exact he'⟩
  have got := q ys _ y2 y3 (I1.hok.fresh (Nat.le_refl _))
  refine wpAny_pure ⟨_, rfl, .ref h'.objs.size, _, I1.laid (t' := tk) (fun b u e => ?_) (Nat.le_refl _) ok2, rfl, got⟩
  have lt : b < h'.objs.size := Heap.lt_size e
  show (PyProof.Rows.sortedHeap _ _ _ _).get? b = some u
  rw [PyProof.Rows.sortedHeap_old (Nat.ne_of_lt lt) (by rw [size_push']; exact Nat.lt_succ_of_lt lt)]
  (exact Heap.get?_push_of_some _ e)
end
end OW
namespace OW
open PySem PySem.Spec PyProof.Rows L2
section
variable {X : Cx}
def wTupL (K : PySem.W.Frag) : List V → Hp → VK → Prop := fun xs H Q => ∃ (p : Addr) (ys : List V), xs = [.ref p] ∧ SqL K H p ys ∧ ∀ l, H l = none → Q (.ref l) (upd H l (.tup ys))
theorem c_tupL : CallR X (.type "tuple") (wTupL X.K) := fun pn s σ H xs us Q I r ⟨p, ys, e, h, q⟩ => call_tuple_of pn s σ H xs us Q I r ⟨p, ys, e, .inl ⟨h, q⟩⟩
def wLstL (K : PySem.W.Frag) : List V → Hp → VK → Prop := fun xs H Q => ∃ (p : Addr) (ys : List V), xs = [.ref p] ∧ SqL K H p ys ∧ ∀ l, H l = none → Q (.ref l) (upd H l (.lst ys))
theorem c_lstL : CallR X (.type "list") (wLstL X.K) := fun pn s σ H xs us Q I r ⟨p, ys, e, h, q⟩ => call_list_of pn s σ H xs us Q I r ⟨p, ys, e, .inl h, q⟩
def wLstT (K : PySem.W.Frag) : List V → Hp → VK → Prop := fun xs H Q => ∃ (p : Addr) (ys : List V), xs = [.ref p] ∧ SqT K H p ys ∧ ∀ l, H l = none → Q (.ref l) (upd H l (.lst ys))
theorem c_lstT : CallR X (.type "list") (wLstT X.K) := fun pn s σ H xs us Q I r ⟨p, ys, e, h, q⟩ => call_list_of pn s σ H xs us Q I r ⟨p, ys, e, .inr h, q⟩
end
end OW
namespace OW
open PySem PySem.Spec PyProof.Rows L2
def wIns : V → List V → Hp → VK → Prop := fun x vs H Q => ∃ (l : Addr) (xs : List V) (i : Int) (y : V), x = .ref l ∧ vs = [.int i, y] ∧ H l = some (.lst xs) ∧ xs.length < sizeLine ∧ 0 ≤ i ∧ i < 2 ^ 63 ∧ Q .non (upd H l (.lst (xs.take i.toNat ++ [y] ++ xs.drop i.toNat)))
theorem m_ins {X : Cx} : MtR X "list.insert" wIns := mt_insert
end OW
namespace OW
open PySem PySem.Spec PyProof.Rows L2
/-- a op b op' c op'' d as a test -/
def tChain3 (r r' r'' : R2) (ta tb tc td : TE) : TT := fun σ H QB => ta σ H fun x G => tb σ G fun y G1 => r x y G1 fun z G2 => ∃ k, z = .bl k ∧
  (if k = true then tc σ G2 fun u G3 => r' y u G3 fun z2 G4 => ∃ k2, z2 = .bl k2 ∧
    (if k2 = true then td σ G4 fun v G5 => r'' u v G5 fun z3 G6 => ∃ k3, z3 = .bl k3 ∧ QB k3 G6 else QB false G4) else QB false G2)
section
variable {X : Cx} {a b c d : Expr} {ta tb tc td : TE} {pos : Pos} {op op' op'' : CmpOp} {r r' r'' : R2}
theorem pt_chain3 (h1 : OpR X (compareOp op) r) (h2 : OpR X (compareOp op') r') (h3 : OpR X (compareOp op'') r'') (ha : PE X a ta) (hb : PE X b tb) (hc : PE X c tc) (hd : PE X d td)
    (hm : lastMarks [op, op', op''] [b, c, d] = false := by with_unfolding_all rfl) : PT X (.Compare a [op, op', op''] [b, c, d] pos) (tChain3 r r' r'' ta tb tc td) := by
  refine ⟨fun pn s σ H Q I h => ?_⟩
  refine isTrue_chain (thn (ha.run pn s σ H _ I h) fun v s1 ⟨x, G1, I1, r1, q1⟩ => test_link (thn (hb.run pn s1 σ G1 _ I1 q1) fun u s2 ⟨y, G2, I2, r2, q2⟩ =>
    thn (h1 pn s2 σ G2 x y v u _ I2 r1 r2 q2) fun e1 s3 ⟨z, G3, I3, r3, k, e, q3⟩ => ?_)) hm
  subst e
  cases r3
  refine wpAny_truthy_bool ?_
  cases k with
  | false => exact ite_ff ⟨G3, I3, q3⟩
  | true =>
    refine ite_tt (test_link (thn (hc.run pn s3 σ G3 _ I3 q3) fun v2 s4 ⟨y2, G4, I4, r4, q4⟩ => thn (h2 pn s4 σ G4 y y2 u v2 _ I4 r2 r4 q4) fun e2 s5 ⟨z2, G5, I5, r5, k2, e3, q5⟩ => ?_))
    subst e3
    cases r5
    refine wpAny_truthy_bool ?_
    cases k2 with
    | false => exact ite_ff ⟨G5, I5, q5⟩
    | true =>
      refine ite_tt (test_last (thn (hd.run pn s5 σ G5 _ I5 q5) fun v3 s6 ⟨y3, G6, I6, r6, q6⟩ => thn (h3 pn s6 σ G6 y2 y3 v2 v3 _ I6 r4 r6 q6) fun e4 s7 ⟨z3, G7, I7, r7, k3, e5, q7⟩ => ?_))
      subst e5
      cases r7
      exact wpAny_truthy_bool ⟨G7, I7, q7⟩
end
end OW
namespace OW
open PySem PySem.Spec PyProof.Rows L2
def wIsN : R2 := fun x y H Q => y = .non ∧ Q (.bl (decide (x = .non))) H
def wNotN : R2 := fun x y H Q => y = .non ∧ Q (.bl (!decide (x = .non))) H
theorem o_isN {X : Cx} : OpR X (compareOp .Is) wIsN := op_isN
theorem o_notN {X : Cx} : OpR X (compareOp .IsNot) wNotN := op_notN
end OW
namespace OW
open PySem PySem.Spec PyProof.Rows L2
theorem pg_tupK {X : Cx} {K : PySem.W.Frag} {es : List Expr} {k : Nat} {t : TGs} {n : Nat} {pos : Pos} (eK : X.K = K) (hc : X.calm = true) (h : PGs X es t)
    (hn : (assignEach es X.env).length = n := by rfl) (hst : (assignEach es X.env).findIdx? (·.1) = none := by rfl) : PG X (.Tuple es k pos) (gTup K n t) := by
  subst eK
  exact pg_tup hc h hn hst
end OW
namespace OW
open PySem PySem.Spec PyProof.Rows L2
theorem fnR_of {P : Program} {w : World} {K : PySem.W.Frag} {mg : Str → Option Value} {base : Heap} {CX : CXT} {k : Nat} {f : Addr} {fd : FuncData} {ps : List Str} {sp : Sp} (F : FnOk P w K mg base CX k f fd ps sp) (bd : Binds K fd ps []) : FnR P w K mg base CX k f sp := by
  intro A outer s H us vs Q E room e0 r h
  have KX : K.In s.heap := e0.mod.kin.keeps fun b o q => (e0.bs b o q).1
  have len : us.length = ps.length := r.length.symm.trans (F.len _ _ _ _ h)
  have z := bd s us KX (by simpa using len)
  exact F.run A outer s H ⟨us, []⟩ us vs Q E room e0 (by simpa using z) r h
/-- C(e, ..), C a local name -/
def tMakeL (i : Nat) (C : Addr) (sp : Sp) (E : XK) (t : TA) : TE := fun σ H Q => σ[i]? = some (some (.ref C)) ∧ tMake C sp [] E t σ H Q
section
variable {X : Cx} {CX : CXT} {k : Nat} {C f : Addr} {fd : FuncData} {ps : List Str} {sp : Sp} {E : XK} {K : PySem.W.Frag}
theorem pe_makeL {i : Nat} {x : Str} {p pos : Pos} {e : Expr} {es : List Expr} {t : TA} (hN : X.N[i]? = some x) (hv : Vis X.env.scope x) (M : Mk X.K C f) (F : FnOk X.prog X.w X.K X.mg X.base CX k f fd ps sp) (room : Room (k + 1) X.A) (bd : Binds X.K fd ps []) (px : Passes CX X E) (args : PA X (e :: es) t)
    (nd : (x == ("__debug__" : Str)) = false := by decide) (nc : (x == ("__classdict__" : Str)) = false := by decide) (h1 : starEach (e :: es) X.env = (false, eval e X.env) :: starEach es X.env := by rfl) (h2 : (backTo pos (starEach es X.env)).any (·.1) = false := by rfl) :
    PE X (.Call (.Name x p) (e :: es) [] pos) (tMakeL i C sp E t) := by
  refine ⟨fun pn s σ G Q I h => ?_⟩
  obtain ⟨hs, h⟩ := h
  refine wpAny_Call_Name_kw (thn ((pe_var (pos := p) (i := i) hN hv nd nc).run pn s σ G (fun v G1 => v = .ref C ∧ G1 = G) I ⟨.ref C, hs, rfl, rfl⟩) fun u s1 ⟨v, G1, I1, rv, ev, eG⟩ => ?_)
  subst ev
  rw [eG] at I1
  cases rv
  refine PySem.W.callWith_K (h₀ := X.base) I.ok.mod.kin M.kp (thn (args.run pos pn s1 σ G _ I1 h) fun us s2 ⟨vs, G2, I2, r, q⟩ => ⟨I2.kIn, ?_⟩) h1 h2
  exact run_make M F room bd .nil px I2 r q
theorem pe_fldK {e : Expr} {f : Str} {pos : Pos} {ta : TE} (eK : X.K = K) (he : PE X e ta) (hb : attributeBase e f X.env (eval e X.env) = eval e X.env) : PE X (.Attribute e f pos) (tFld K ta f) := by
  subst eK
  exact pe_fld he hb
theorem pi_tupK {tg l : Expr} {tl : TE} (eK : X.K = K) (hl : PE X l tl) : PI X tg l (iTup K tl) := by
  subst eK
  exact pi_tup hl
theorem pi_listK {tg l : Expr} {tl : TE} (eK : X.K = K) (hl : PE X l tl) : PI X tg l (iList K tl) := by
  subst eK
  exact pi_list hl
theorem ix_listK (eK : X.K = K) : IxR X (rIxL K) := by
  subst eK
  exact ix_list
theorem ix_tupK (eK : X.K = K) : IxR X (rIxT K) := by
  subst eK
  exact ix_tup
theorem c_lenK (eK : X.K = K) : CallR X (.builtin "len") (wLen K) := by
  subst eK
  exact c_len
end
end OW
end
section
namespace PL
open PySem PySem.Spec PyProof.Rows L2
variable {K : PySem.W.Frag} {ad : Cl → Addr} {ct : CT}
variable {fr : Fr} {F F' H H' : Hp} {σ : L2.St} {ρ : List Sl} {W : WX}
/-! ### arguments -/
section
variable {X : Cx}
theorem pq_n : PA X [] (TAr K ct W (evAs [])) := pa_nil.imp fun σ H Q h => by
  obtain ⟨fr, F, ρ, S, h⟩ := h
  exact Tat.ok (a := ([] : List Ar)) h [] F H (Same.refl _) S RAs.nil
theorem RAs.mono {F F' : Hp} {σ : L2.St} (s : Same F F') : ∀ {vs : List V} {as : List Ar}, RAs K ct.ad F σ vs as → RAs K ct.ad F' σ vs as
  | _, _, .nil => .nil
  | _, .d _ :: _, .cons h r => .cons (Rp.mono s h) (RAs.mono s r)
  | _, .c _ :: _, .cons h r => .cons h (RAs.mono s r)
theorem pq_c {e : Expr} {es : List Expr} {m : Ev} {r : List AE} (he : PE X e (TP K ct W m)) (hr : PA X es (TAr K ct W (evAs r)))
    (hs : starEach (e :: es) X.env = (false, eval e X.env) :: starEach es X.env := by rfl) : PA X (e :: es) (TAr K ct W (evAs (.e m :: r))) := (pa_cons he hr hs).imp fun σ H Q h => by
  obtain ⟨fr, F, ρ, S, h⟩ := h
  refine Tat.dat h S fun F1 H1 ρ1 v d s1 S1 r1 h => ?_
  refine Tat.bnd h S1 fun F2 H2 ρ2 vs ds s2 S2 r2 h => ?_
  exact Tat.ok (a := Ar.d d :: ds) h _ F2 H2 (Same.refl _) S2 (RAs.cons (r1.mono s2) r2)
theorem pq_k {e : Expr} {es : List Expr} (j : Nat) {r : List AE} (he : PE X e (tVar j)) (hr : PA X es (TAr K ct W (evAs r)))
    (hs : starEach (e :: es) X.env = (false, eval e X.env) :: starEach es X.env := by rfl) : PA X (e :: es) (TAr K ct W (evAs (.c j :: r))) := (pa_cons he hr hs).imp fun σ H Q h => by
  obtain ⟨fr, F, ρ, S, r0, ρ0, e0, q0⟩ := h
  have e1 : (match ρ[j]? with | some (.cel _ _) => bnd (evAs r) (fun as => pur (.c j :: as)) ρ | _ => none) = some (r0, ρ0) := e0
  split at e1
  · rename_i k c hc
    obtain ⟨p, o, h1, h2⟩ := S.cell_at hc
    refine ⟨_, h1, ?_⟩
    have h : Tat K ct (RA K ct.ad) W fr F ρ (bnd (evAs r) (fun as => pur (.c j :: as))) σ Q := ⟨r0, ρ0, e1, q0⟩
    refine Tat.bnd h S fun F2 H2 ρ2 vs ds s2 S2 r2 h => ?_
    exact Tat.ok (a := Ar.c j :: ds) h _ F2 H2 (Same.refl _) S2 (RAs.cons h1 r2)
  · cases e1
end
/-- a call whose arguments stand -/
def evCall0 (n : Nat) (G : Fn) (as : List AE) (ds : List D := []) : Ev := bnd (evAs as) fun ar => noEr (callG n G (ar ++ ds.map .d))
theorem Tat.noEr {α β : Type} {R : Rel3 β α} {m : M α} {Q : β → Hp → Prop} (h : Tat K ct R W fr F ρ (PL.noEr m) σ Q) : Tat K ct R (fun _ _ _ _ => False) fr F ρ m σ Q := by
  obtain ⟨r, ρ', e, q⟩ := h
  unfold PL.noEr at e
  split at e
  · rename_i a ρ1 h1
    cases e
    exact ⟨_, _, h1, q⟩
  · cases e
theorem spP.no {n : Nat} {G : Fn} {vs : List V} {H : Hp} {Q : VK} {E : XK} (h : spP K ad n (noEr G) vs H Q E) : spP K ad n G vs H Q (fun _ _ _ => False) := by
  obtain ⟨hn, fr, F, ss, S, hP, hF, t⟩ := h
  exact ⟨hn, fr, F, ss, S, hP, hF, t.noEr⟩
/-- a def that raises nothing -/
def run0 (k : Nat) (s : M Fl) : Fn := noEr (runB k s)
theorem ok0 {P : Program} {w : World} {mg : Str → Option Value} {base : Heap} {x qual : Str} {st : Stmt} {f : Addr} {fd : FuncData} {N ps : List Str} {lv : Nat} {n k : Nat} {s : M Fl} (Fd : L2.Fun K x qual st f fd) (S : FnScope N ps (defScope st)) (hp : ps.length = n) (hN : N.length = n + k)
    (hb : ∀ (cdv : Value) (A : Around) (outer : List Env) (s0 : Shared) (H : Hp) (E : XK), Room lv (A.deeper (envOfC qual (defScope st) s0.heap.objs.size f cdv)) →
      PSs (cxOf CX0 P w K mg base N qual (defScope st) f cdv A outer s0 H E).nox (defBody st) (TSt K (cx ad) (fun _ _ _ _ => False) s)) : FnOk P w K mg base CX0 (lv + 1) f fd ps (spP K ad n (run0 k s)) :=
  Fd.ok S (fun vs H Q E h => by rw [hp]; exact h.1) fun cdv A outer s0 H vs Q E hr h => ⟨_, hb cdv A outer s0 H E hr, body_end (E := fun _ _ _ => False) hN h.no⟩
inductive Dfs : List V → List D → Prop
  | nil : Dfs [] []
  | cons {v : V} {d : D} {vs : List V} {ds : List D} (h : d.toV = some v) (r : Dfs vs ds) : Dfs (v :: vs) (d :: ds)
theorem RAs.dfs {F : Hp} {σ : L2.St} {dvs : List V} {ds : List D} (hd : Dfs dvs ds) : ∀ {vs : List V} {as : List Ar}, RAs K ct.ad F σ vs as → RAs K ct.ad F σ (vs ++ dvs) (as ++ ds.map .d)
  | _, _, .nil => by
    induction hd with
    | nil => exact .nil
    | cons h _ ih => exact .cons (D.toV_rp h) ih
  | _, _, .cons h r => .cons h (RAs.dfs hd r)
section
variable {X : Cx} {CX : CXT} {k : Nat} {f : Addr} {fd : FuncData} {ps : List Str} {x : Str} {p pos apos : Pos} {e o : Expr} {es : List Expr} {n : Nat} {G : Fn} {as : List AE} {dvs : List V} {dds : List D} {ds : List Value}
/-- what may be raised meets the wish -/
theorem pp_callS (Fn : FnOk X.prog X.w X.K X.mg X.base (L2.CX X.prog X.w) k f fd ps (spP K ct.ad n G)) (tk : Takes X W) (hr : Room k X.A) (hg : Gl X x) (hm : X.mg x = some (.ref f)) (hk : PySem.W.keepIn X.K (.ref f) = true) (hb : Binds X.K fd ps [])
    (ha : PA X (e :: es) (TAr K ct W (evAs as))) (hdb : (x == ("__debug__" : Str)) = false := by decide) (he : starEach (e :: es) X.env = (false, eval e X.env) :: starEach es X.env := by rfl) (hpl : (backTo pos (starEach es X.env)).any (·.1) = false := by rfl) :
    PE X (.Call (.Name x p) (e :: es) [] pos) (TP K ct W (evCall n G as)) := (pe_callS Fn hr hg hm hk hb (fun σ => passAt tk σ) ha hdb he hpl).imp fun σ H Q h => by
  obtain ⟨fr, F, ρ, S, h⟩ := h
  refine Tat.bnd h S fun F1 H1 ρ1 vs ar s1 S1 r1 h => ?_
  rw [List.map_nil, List.append_nil] at h
  exact Tat.call h S1 r1 fun _ _ _ z => z
theorem pp_call (Fn : FnOk X.prog X.w X.K X.mg X.base CX k f fd ps (spP K ct.ad n G)) (hr : Room k X.A) (hg : Gl X x) (hm : X.mg x = some (.ref f)) (hk : PySem.W.keepIn X.K (.ref f) = true) (hb : Binds X.K fd ps ds) (hd : Vals dvs ds) (hx : Passes CX X E0)
    (ha : PA X (e :: es) (TAr K ct W (evAs as))) (hdf : Dfs dvs dds) (hdb : (x == ("__debug__" : Str)) = false := by decide) (he : starEach (e :: es) X.env = (false, eval e X.env) :: starEach es X.env := by rfl) (hpl : (backTo pos (starEach es X.env)).any (·.1) = false := by rfl) :
    PE X (.Call (.Name x p) (e :: es) [] pos) (TP K ct W (evCall0 n G as dds)) := (pe_call Fn hr hg hm hk hb hd hx ha hdb he hpl).imp fun σ H Q h => by
  obtain ⟨fr, F, ρ, S, h⟩ := h
  refine Tat.bnd h S fun F1 H1 ρ1 vs ar s1 S1 r1 h => ?_
  exact Tat.call (W := fun _ _ _ _ => False) h.noEr S1 (RAs.dfs hdf r1) fun _ _ _ z => z
theorem pp_call00 (Fn : FnOk X.prog X.w X.K X.mg X.base CX k f fd ps (spP K ct.ad n G)) (hr : Room k X.A) (hg : Gl X x) (hm : X.mg x = some (.ref f)) (hk : PySem.W.keepIn X.K (.ref f) = true) (hb : Binds X.K fd ps ds) (hd : Vals dvs ds) (hx : Passes CX X E0)
    (hdf : Dfs dvs dds) (hdb : (x == ("__debug__" : Str)) = false := by decide) :
    PE X (.Call (.Name x p) [] [] pos) (TP K ct W (evCall0 n G [] dds)) := (pe_call0 Fn hr hg hm hk hb hd hx hdb).imp fun σ H Q h => by
  obtain ⟨fr, F, ρ, S, h⟩ := h
  exact Tat.call (W := fun _ _ _ _ => False) (ar := dds.map .d) (Tat.noEr h) S (by simpa using RAs.dfs (K := K) (ct := ct) hdf RAs.nil) fun _ _ _ z => z
/-! methods of data objects -/
def evMeth (n : Nat) (G : Fn) (c : Cl) (o : Ev) (as : List AE) : Ev := bnd (dat o) fun d => match d with
  | .obj c' xs => if c' = c then bnd (evAs as) fun ar => noEr (callG n G (.d (.obj c' xs) :: ar)) else fai
  | _ => fai
def evMethS (n : Nat) (G : Fn) (c : Cl) (o : Ev) (as : List AE) : Ev := bnd (dat o) fun d => match d with
  | .obj c' xs => if c' = c then bnd (evAs as) fun ar => callG n G (.d (.obj c' xs) :: ar) else fai
  | _ => fai
theorem Tat.obj {δ γ : Type} {R' : Rel3 δ γ} {m : Ev} {c : Cl} {k : List D → M γ} {Q : δ → Hp → Prop} {Q1 : V → Hp → Prop}
    (h : Tat K ct R' W fr F ρ (PL.bnd (PL.dat m) fun d => match d with | .obj c' xs => if c' = c then k xs else fai | _ => fai) σ Q) (S : Rel K ct fr F H σ ρ)
    (hq : ∀ F1 H1 ρ1 a dx vs xs, Same F F1 → Rel K ct fr F1 H1 σ ρ1 → F1 a = some (.ins (ct.ad c) dx (c.fn.zip vs)) → c.fn.length = vs.length → Rps K ct.ad F1 vs xs → Tat K ct R' W fr F1 ρ1 (k xs) σ Q → Q1 (.ref a) H1) : T K ct (RV K ct.ad) W m σ H Q1 := by
  refine Tat.dat h S fun F1 H1 ρ1 v d s1 S1 r1 h => ?_
  cases d with
  | obj c' xs =>
    cases r1 with
    | @obj a dx _ vs _ h1 l1 k1 =>
      have h9 : Tat K ct R' W fr F1 ρ1 (if c' = c then k xs else fai) σ Q := h
      clear h
      split at h9
      · rename_i ec
        subst ec
        exact hq F1 H1 ρ1 a dx vs xs s1 S1 h1 l1 k1 h9
      · obtain ⟨_, _, e, _⟩ := h9; cases e
  | _ => obtain ⟨_, _, e, _⟩ := h; cases e
theorem dcont {α : Type} {c : Cl} {k : Cl → List D → M α} : (fun d : D => match d with | .obj c' xs => if c' = c then k c' xs else fai | _ => (fai : M α)) = fun d => match d with | .obj c' xs => if c' = c then k c xs else fai | _ => fai := by
  funext d
  cases d <;> try rfl
  rename_i c' xs
  by_cases e : c' = c
  · subst e; rfl
  · simp [e]
/-- how a call of a method runs, with these words -/
abbrev CallsM (X : Cx) (o : Expr) (m : Str) (apos pos : Pos) (pl : Sem Bool) (ws : List Expr) : Prop :=
  eval (.Call (.Attribute o m apos) ws [] pos) X.env = eval o X.env >>= fun y => standAt apos.atName >>= fun _ => holding [y] (getMethod y m pl) >>= fun z =>
    callWith pos z.1 z.2 (backTo pos (starEach ws X.env)) (backToKw pos (keywordEach [] X.env))
theorem pp_meth {m : Str} {pl : Sem Bool} {fo : Ev} (c : Cl) (he : PE X o (TP K ct W fo)) (cl : Cls X.K (ct.ad c)) (hm : Meth X.K (ct.ad c) m f) (Fn : FnOk X.prog X.w X.K X.mg X.base CX k f fd ps (spP K ct.ad n G)) (hr : Room k X.A) (hb : Binds X.K fd ps []) (hx : Passes CX X E0)
    (ha : PA X (e :: es) (TAr K ct W (evAs as))) (nm : c.fn.findIdx? (fun k => m == k) = none := by decide)
    (hst : starEach (e :: es) X.env = (false, eval e X.env) :: starEach es X.env := by rfl) (hpl : (backTo pos (starEach es X.env)).any (·.1) = false := by rfl)
    (ht : CallsM X o m apos pos pl (e :: es) := by rfl) :
    PE X (.Call (.Attribute o m apos) (e :: es) [] pos) (TP K ct W (evMeth n G c fo as)) := (pe_meth he cl hm Fn hr hb .nil hx ha hst hpl ht).imp fun σ H Q h => by
  obtain ⟨fr, F, ρ, S, h⟩ := h
  unfold evMeth at h
  rw [dcont (k := fun c xs => bnd (evAs as) fun ar => noEr (callG n G (.d (.obj c xs) :: ar)))] at h
  refine Tat.obj h S fun F1 H1 ρ1 a dx vs xs s1 S1 h1 l1 k1 h => ?_
  refine ⟨a, dx, _, rfl, S1.fh _ _ h1, look_no nm, ?_⟩
  refine Tat.bnd h S1 fun F2 H2 ρ2 us ar s2 S2 r2 h => ?_
  rw [List.append_nil]
  exact Tat.call (W := fun _ _ _ _ => False) h.noEr S2 (RAs.cons ((Rp.obj h1 l1 k1).mono s2) r2) fun _ _ _ z => z
theorem pp_meth0 {m : Str} {pl : Sem Bool} {fo : Ev} (c : Cl) (he : PE X o (TP K ct W fo)) (cl : Cls X.K (ct.ad c)) (hm : Meth X.K (ct.ad c) m f) (Fn : FnOk X.prog X.w X.K X.mg X.base CX k f fd ps (spP K ct.ad n G)) (hr : Room k X.A) (hb : Binds X.K fd ps []) (hx : Passes CX X E0)
    (nm : c.fn.findIdx? (fun k => m == k) = none := by decide)
    (ht : CallsM X o m apos pos pl [] := by rfl) :
    PE X (.Call (.Attribute o m apos) [] [] pos) (TP K ct W (evMeth n G c fo [])) := (pe_meth0 he cl hm Fn hr hb .nil hx ht).imp fun σ H Q h => by
  obtain ⟨fr, F, ρ, S, h⟩ := h
  unfold evMeth at h
  rw [dcont (k := fun c xs => bnd (evAs []) fun ar => noEr (callG n G (.d (.obj c xs) :: ar)))] at h
  refine Tat.obj h S fun F1 H1 ρ1 a dx vs xs s1 S1 h1 l1 k1 h => ?_
  refine ⟨a, dx, _, rfl, S1.fh _ _ h1, look_no nm, ?_⟩
  exact Tat.call (W := fun _ _ _ _ => False) (ar := [.d (.obj c xs)]) (Tat.noEr h) S1 (RAs.cons (Rp.obj h1 l1 k1) RAs.nil) fun _ _ _ z => z
/-- o.m(e, ..), what it raises meets the wish at the slots as they stand -/
def tMethE (C : Addr) (m : Str) (sp : Sp) (E : L2.St → XK) (ta : TE) (t : TA) : TE := fun σ H Q => ta σ H fun x H1 => ∃ a dx fs, x = .ref a ∧ H1 a = some (.ins C dx fs) ∧ fs.lookup m = none ∧ t σ H1 fun vs H2 => sp (x :: vs) H2 Q (E σ)
theorem pe_methE {C : Addr} {m : Str} {pl : Sem Bool} {sp : Sp} {E : L2.St → XK} {ta : TE} {t : TA} (he : PE X o ta) (c : Cls X.K C) (hm : Meth X.K C m f) (Fn : FnOk X.prog X.w X.K X.mg X.base CX k f fd ps sp) (hr : Room k X.A) (hb : Binds X.K fd ps []) (hx : ∀ σ, PassesAt CX X σ (E σ)) (ha : PA X (e :: es) t)
    (hst : starEach (e :: es) X.env = (false, eval e X.env) :: starEach es X.env := by rfl) (hpl : (backTo pos (starEach es X.env)).any (·.1) = false := by rfl)
    (ht : CallsM X o m apos pos pl (e :: es) := by rfl) :
    PE X (.Call (.Attribute o m apos) (e :: es) [] pos) (tMethE C m sp E ta t) := by
  (refine ⟨fun pins s σ H Q I h => ?_⟩)
  (refine PySem.W.methodCall_KW (pl := pl) (thn (he.run pins s σ H _ I h) fun u s1 ⟨x, H1, I1, rx, a, dx, fs, ex, ea, l, q⟩ => ?_) ht)
  subst ex
  (obtain rfl : u = Value.ref a := rx)
  (refine getmeth_ok I1 ea c hm l ?_)
  (refine PySem.W.callWith_K (first := [.ref a]) (h₀ := X.base) I.ok.mod.kin hm.kp (thn (ha.run pos pins s1 σ H1 _ I1 q) fun us s2 ⟨vs, H2, I2, r, q2⟩ => ⟨I2.kIn, ?_⟩) hst hpl)
  exact run_fnS (us := .ref a :: us) (vs := .ref a :: vs) Fn hr hb (hx σ) I2 (.cons rfl r) q2
theorem pe_methE0 {C : Addr} {m : Str} {pl : Sem Bool} {sp : Sp} {E : L2.St → XK} {ta : TE} (he : PE X o ta) (c : Cls X.K C) (hm : Meth X.K C m f) (Fn : FnOk X.prog X.w X.K X.mg X.base CX k f fd ps sp) (hr : Room k X.A) (hb : Binds X.K fd ps []) (hx : ∀ σ, PassesAt CX X σ (E σ))
    (ht : CallsM X o m apos pos pl [] := by rfl) :
    PE X (.Call (.Attribute o m apos) [] [] pos) (tMethE C m sp E ta tNil) := by
  (refine ⟨fun pins s σ H Q I h => ?_⟩)
  (refine PySem.W.methodCall_KW (pl := pl) (thn (he.run pins s σ H _ I h) fun u s1 ⟨x, H1, I1, rx, a, dx, fs, ex, ea, l, q⟩ => ?_) ht)
  subst ex
  (obtain rfl : u = Value.ref a := rx)
  (refine getmeth_ok I1 ea c hm l ?_)
  exact PySem.W.callWith_K0 (first := [.ref a]) I1.kIn hm.kp (run_fnS (us := [.ref a]) (vs := [.ref a]) Fn hr hb (hx σ) I1 (.cons rfl .nil) q)
theorem pp_methS {m : Str} {pl : Sem Bool} {fo : Ev} (c : Cl) (he : PE X o (TP K ct W fo)) (cl : Cls X.K (ct.ad c)) (hm : Meth X.K (ct.ad c) m f) (Fn : FnOk X.prog X.w X.K X.mg X.base (L2.CX X.prog X.w) k f fd ps (spP K ct.ad n G)) (tk : Takes X W) (hr : Room k X.A) (hb : Binds X.K fd ps [])
    (ha : PA X (e :: es) (TAr K ct W (evAs as))) (nm : c.fn.findIdx? (fun k => m == k) = none := by decide)
    (hst : starEach (e :: es) X.env = (false, eval e X.env) :: starEach es X.env := by rfl) (hpl : (backTo pos (starEach es X.env)).any (·.1) = false := by rfl)
    (ht : CallsM X o m apos pos pl (e :: es) := by rfl) :
    PE X (.Call (.Attribute o m apos) (e :: es) [] pos) (TP K ct W (evMethS n G c fo as)) := (pe_methE he cl hm Fn hr hb (fun σ => passAt tk σ) ha hst hpl ht).imp fun σ H Q h => by
  obtain ⟨fr, F, ρ, S, h⟩ := h
  unfold evMethS at h
  rw [dcont (k := fun c xs => bnd (evAs as) fun ar => callG n G (.d (.obj c xs) :: ar))] at h
  refine Tat.obj h S fun F1 H1 ρ1 a dx vs xs s1 S1 h1 l1 k1 h => ?_
  refine ⟨a, dx, _, rfl, S1.fh _ _ h1, look_no nm, ?_⟩
  refine Tat.bnd h S1 fun F2 H2 ρ2 us ar s2 S2 r2 h => ?_
  exact Tat.call h S2 (RAs.cons ((Rp.obj h1 l1 k1).mono s2) r2) fun _ _ _ z => z
theorem pp_methS0 {m : Str} {pl : Sem Bool} {fo : Ev} (c : Cl) (he : PE X o (TP K ct W fo)) (cl : Cls X.K (ct.ad c)) (hm : Meth X.K (ct.ad c) m f) (Fn : FnOk X.prog X.w X.K X.mg X.base (L2.CX X.prog X.w) k f fd ps (spP K ct.ad n G)) (tk : Takes X W) (hr : Room k X.A) (hb : Binds X.K fd ps [])
    (nm : c.fn.findIdx? (fun k => m == k) = none := by decide)
    (ht : CallsM X o m apos pos pl [] := by rfl) :
    PE X (.Call (.Attribute o m apos) [] [] pos) (TP K ct W (evMethS n G c fo [])) := (pe_methE0 he cl hm Fn hr hb (fun σ => passAt tk σ) ht).imp fun σ H Q h => by
  obtain ⟨fr, F, ρ, S, h⟩ := h
  unfold evMethS at h
  rw [dcont (k := fun c xs => bnd (evAs []) fun ar => callG n G (.d (.obj c xs) :: ar))] at h
  refine Tat.obj h S fun F1 H1 ρ1 a dx vs xs s1 S1 h1 l1 k1 h => ?_
  refine ⟨a, dx, _, rfl, S1.fh _ _ h1, look_no nm, ?_⟩
  exact Tat.call (ar := [.d (.obj c xs)]) h S1 (RAs.cons (Rp.obj h1 l1 k1) RAs.nil) fun _ _ _ z => z
/-! properties -/
theorem pp_prop {m : Str} {q : Addr} {fo : Ev} (c : Cl) (he : PE X o (TP K ct W fo)) (cl : Cls X.K (ct.ad c)) (hp : PropOf X.K (ct.ad c) m q f) (Fn : FnOk X.prog X.w X.K X.mg X.base CX k f fd ps (spP K ct.ad n G)) (hr : Room (k + 1) X.A) (hb : Binds X.K fd ps []) (hx : Passes CX X.nox E0)
    (hab : attributeBase o m X.env (eval o X.env) = eval o X.env := by rfl) : PE X (.Attribute o m pos) (TP K ct W (evMeth n G c fo [])) := (pe_prop he cl hp Fn hr hb .nil hx hab).imp fun σ H Q h => by
  obtain ⟨fr, F, ρ, S, h⟩ := h
  unfold evMeth at h
  rw [dcont (k := fun c xs => bnd (evAs []) fun ar => noEr (callG n G (.d (.obj c xs) :: ar)))] at h
  refine Tat.obj h S fun F1 H1 ρ1 a dx vs xs s1 S1 h1 l1 k1 h => ?_
  refine ⟨a, dx, _, rfl, S1.fh _ _ h1, ?_⟩
  exact Tat.call (W := fun _ _ _ _ => False) (ar := [.d (.obj c xs)]) (Tat.noEr h) S1 (RAs.cons (Rp.obj h1 l1 k1) RAs.nil) fun _ _ _ z => z
/-! operators of own objects -/
def evOwn2 (n : Nat) (G : Fn) (c : Cl) (a b : Ev) : Ev := bnd (dat a) fun d => match d with
  | .obj c' xs => if c' = c then bnd (dat b) fun d2 => (match d2 with
      | .obj c2 ys => if c2 = c then noEr (callG n G [.d (.obj c xs), .d (.obj c ys)]) else fai
      | _ => fai) else fai
  | _ => fai
theorem w_own2 {c : Cl} {fa fb : Ev} {Q : VK} (h : TP K ct W (evOwn2 n G c fa fb) σ H Q) : tOp (OW.rOwn2 (ct.ad c) (spP K ct.ad n G) E0) (TP K ct W fa) (TP K ct W fb) σ H Q := by
  obtain ⟨fr, F, ρ, S, h⟩ := h
  refine Tat.obj h S fun F1 H1 ρ1 a dx vs xs s1 S1 h1 l1 k1 h => ?_
  refine Tat.obj h S1 fun F2 H2 ρ2 b dy us ys s2 S2 h2 l2 k2 h => ?_
  refine ⟨a, dx, _, b, dy, _, rfl, rfl, S2.fh _ _ (s2 _ _ h1), S2.fh _ _ h2, ?_⟩
  exact Tat.call (W := fun _ _ _ _ => False) (Tat.noEr h) S2 (RAs.cons ((Rp.obj h1 l1 k1).mono s2) (RAs.cons (Rp.obj h2 l2 k2) RAs.nil)) fun _ _ _ z => z
theorem pp_own2 {op : Operator} {m : Str} {a b : Expr} {fa fb : Ev} (c : Cl) (hm : m = PySem.dunder op.info.2) (M : Meth X.K (ct.ad c) m f) (hc : PySem.W.selfFirst X.K (ct.ad c) = true) (Fn : FnOk X.prog X.w X.K X.mg X.base CX k f fd ps (spP K ct.ad n G)) (hr : Room k X.A) (hb : Binds X.K fd ps []) (hx : Passes CX X E0)
    (ha : PE X a (TP K ct W fa)) (hbb : PE X b (TP K ct W fb)) : PE X (.BinOp a op b pos) (TP K ct W (evOwn2 n G c fa fb)) := (pe_op (OW.op_bin hm M hc Fn hr hb hx) ha hbb).imp fun _ _ _ => w_own2
theorem pp_owncmp {op : CmpOp} {m : Str} {a b : Expr} {fa fb : Ev} (c : Cl) (hm : m = (PySem.cmpInfo op).2.1) (hop : ∀ a b, compareOp op a b = richCompare op a b) (M : Meth X.K (ct.ad c) m f) (hn : PySem.W.notFirst X.K (ct.ad c) (.ref (ct.ad c)) = true) (Fn : FnOk X.prog X.w X.K X.mg X.base CX k f fd ps (spP K ct.ad n G)) (hr : Room k X.A) (hb : Binds X.K fd ps []) (hx : Passes CX X E0)
    (ha : PE X a (TP K ct W fa)) (hbb : PE X b (TP K ct W fb)) (hmk : behindInMarks op b = false) : PE X (.Compare a [op] [b] pos) (TP K ct W (evOwn2 n G c fa fb)) := (pe_cmpR (OW.op_cmp hm hop M hn Fn hr hb hx) ha hbb hmk).imp fun _ _ _ => w_own2
theorem pp_town {op : CmpOp} {m : Str} {a b : Expr} {fa fb : Ev} (c : Cl) (hm : m = (PySem.cmpInfo op).2.1) (hop : ∀ a b, compareOp op a b = richCompare op a b) (M : Meth X.K (ct.ad c) m f) (hn : PySem.W.notFirst X.K (ct.ad c) (.ref (ct.ad c)) = true) (Fn : FnOk X.prog X.w X.K X.mg X.base CX k f fd ps (spP K ct.ad n G)) (hr : Room k X.A) (hb : Binds X.K fd ps []) (hx : Passes CX X E0)
    (ha : PE X a (TP K ct W fa)) (hbb : PE X b (TP K ct W fb)) (hmk : behindInMarks op b = false) : PT X (.Compare a [op] [b] pos) (TB K ct W (tst (evOwn2 n G c fa fb))) := (pt_cmpR (OW.op_cmp hm hop M hn Fn hr hb hx) ha hbb hmk).imp fun σ H Q h => by
  have z := w_t h
  obtain ⟨fr, F, ρ, S, h⟩ := z
  exact w_own2 ⟨fr, F, ρ, S, h⟩
/-- x in o, o an own object -/
def evOwnIn (n : Nat) (G : Fn) (c : Cl) (a b : Ev) : Ev := bnd (dat a) fun x => bnd (dat b) fun d => match d with
  | .obj c' xs => if c' = c then tst (noEr (callG n G [.d (.obj c xs), .d x])) |> fun t => bnd t fun b => vD (.bl b) else fai
  | _ => fai
theorem pp_ownin {m : Str} {a b : Expr} {fa fb : Ev} (c : Cl) (hm : m = "__contains__") (M : Meth X.K (ct.ad c) m f) (Fn : FnOk X.prog X.w X.K X.mg X.base CX k f fd ps (spP K ct.ad n G)) (hr : Room k X.A) (hb : Binds X.K fd ps []) (hx : Passes CX X E0)
    (ha : PE X a (TP K ct W fa)) (hbb : PE X b (TP K ct W fb)) (hmk : behindInMarks .In b = false) : PE X (.Compare a [.In] [b] pos) (TP K ct W (evOwnIn n G c fa fb)) := (pe_cmpR (OW.op_in hm M Fn hr hb hx) ha hbb hmk).imp fun σ H Q h => by
  obtain ⟨fr, F, ρ, S, h⟩ := h
  refine Tat.dat h S fun F0 H0 ρ0 x dx0 s0 S0 r0 h => ?_
  refine Tat.obj h S0 fun F1 H1 ρ1 a dx vs xs s1 S1 h1 l1 k1 h => ?_
  refine ⟨a, dx, _, rfl, S1.fh _ _ h1, ?_⟩
  have h2 : Tat K ct (RV K ct.ad) W fr F1 ρ1 (noEr (callG n G [.d (.obj c xs), .d dx0])) σ fun z H' => ∃ b, z = .bl b ∧ Q (.bl (if false then !b else b)) H' :=
    Tat.tstT (k := fun b => vD (.bl b)) h fun F2 H2 ρ2 b s2 S2 h => ⟨b, rfl, Tat.ok (a := Rv.d (.bl b)) h _ F2 H2 (Same.refl _) S2 (Rp.bl b)⟩
  exact Tat.call (W := fun _ _ _ _ => False) (Tat.noEr h2) S1 (RAs.cons (Rp.obj h1 l1 k1) (RAs.cons (r0.mono s1) RAs.nil)) fun _ _ _ z => z
end
end PL
end
section
namespace PL
open PySem PySem.Spec PyProof.Rows L2
variable {K : PySem.W.Frag} {ad : Cl → Addr} {ct : CT}
variable {fr : Fr} {F F' H H' : Hp} {σ : L2.St} {ρ : List Sl} {W : WX}
/-! ### statements -/
def evSeq (s t : M Fl) : M Fl := fun ρ => match s ρ with
  | some (.ok .nx, ρ1) => t ρ1
  | r => r
def evNx : M Fl := pur .nx
def setD (i : Nat) (d : D) : M Fl := fun ρ => match ρ[i]? with
  | some (.cel .par _) => none
  | some _ => some (.ok .nx, ρ.set i (.dat d))
  | none => none
def setC (i : Nat) (c : CC) : M Fl := fun ρ => match ρ[i]? with
  | some (.cel .par _) => none
  | some _ => some (.ok .nx, ρ.set i (.cel .own c))
  | none => none
def evAsg (i : Nat) (e : Ev) : M Fl := bnd (dat e) fun d => setD i d
def evAsgC (i : Nat) (e : Ev) : M Fl := bnd e fun r => match r with | .c c => setC i c | .d _ => fai
def evEx (e : Ev) : M Fl := bnd e fun _ => pur .nx
def evRet (e : Ev) : M Fl := bnd e fun r => pur (.rt r)
def evIf (t : M Bool) (a b : M Fl) : M Fl := bnd t fun c => if c then a else b
variable (K ct) in
theorem Sat.bnd {R : Rel3 β α} {D : Ends} {m : M α} {k : α → M Fl} {Q1 : β → Hp → Prop} (h : Sat K ct W D fr F ρ (PL.bnd m k)) (S : Rel K ct fr F H σ ρ)
    (hW : ∀ σ' cls d H', W cls d σ' H' → W cls d σ' H')
    (hq : ∀ F1 H1 ρ1 v a, Same F F1 → Rel K ct fr F1 H1 σ ρ1 → R fr F1 H1 σ ρ1 v a → Sat K ct W D fr F1 ρ1 (k a) → Q1 v H1) : T K ct R W m σ H Q1 := by
  refine ⟨fr, F, ρ, S, ?_⟩
  obtain ⟨r, ρ', e, q⟩ := h
  unfold PL.bnd at e
  cases em : m ρ with
  | none => rw [em] at e; cases e
  | some x =>
    obtain ⟨r1, ρ1⟩ := x
    rw [em] at e
    cases r1 with
    | ok a =>
      refine ⟨.ok a, ρ1, em, fun v F1 H1 s1 S1 r1 => hq F1 H1 ρ1 v a s1 S1 r1 ⟨r, ρ', e, ?_⟩⟩
      cases r with
      | ok z =>
        cases z with
        | nx => exact fun σ' F' H' s' => q σ' F' H' (s1.trans s')
        | bk => exact fun σ' F' H' s' => q σ' F' H' (s1.trans s')
        | ct => exact fun σ' F' H' s' => q σ' F' H' (s1.trans s')
        | rt x => exact fun σ' v F' H' s' => q σ' v F' H' (s1.trans s')
      | er c pl => exact fun σ' d F' H' s' => q σ' d F' H' (s1.trans s')
    | er c pl =>
      refine ⟨.er c pl, ρ1, em, ?_⟩
      have e : (some (Ex.er c pl, ρ1) : Option (Ex Fl × List Sl)) = some (r, ρ') := e
      cases e
      exact fun d F' H' s' S' pr => q σ d F' H' s' S' pr
theorem Sat.mono {D : Ends} {s : M Fl} (h : Sat K ct W D fr F ρ s) (s1 : Same F F') : Sat K ct W D fr F' ρ s := by
  obtain ⟨r, ρ', e, q⟩ := h
  refine ⟨r, ρ', e, ?_⟩
  cases r with
  | ok z =>
    cases z with
    | nx => exact fun σ' F' H' s' => q σ' F' H' (s1.trans s')
    | bk => exact fun σ' F' H' s' => q σ' F' H' (s1.trans s')
    | ct => exact fun σ' F' H' s' => q σ' F' H' (s1.trans s')
    | rt x => exact fun σ' v F' H' s' => q σ' v F' H' (s1.trans s')
  | er c pl => exact fun σ' d F' H' s' => q σ' d F' H' (s1.trans s')
/-- .. of data -/
theorem Sat.dat {D : Ends} {m : Ev} {k : PL.D → M Fl} {Q1 : V → Hp → Prop} (h : Sat K ct W D fr F ρ (PL.bnd (PL.dat m) k)) (S : Rel K ct fr F H σ ρ)
    (hq : ∀ F1 H1 ρ1 v d, Same F F1 → Rel K ct fr F1 H1 σ ρ1 → Rp K ct.ad F1 v d → Sat K ct W D fr F1 ρ1 (k d) → Q1 v H1) : T K ct (RV K ct.ad) W m σ H Q1 := by
  have e : PL.bnd (PL.dat m) k = PL.bnd m fun r => PL.bnd (match r with | Rv.d d => pur d | Rv.c c => PL.opt c.froz) k := by
    funext ρ
    unfold PL.dat PL.bnd
    cases em : m ρ with
    | none => rfl
    | some x =>
      obtain ⟨r1, ρ1⟩ := x
      cases r1 with
      | ok a => cases a <;> rfl
      | er c pl => rfl
  rw [e] at h
  refine Sat.bnd K ct h S (fun _ _ _ _ z => z) fun F1 H1 ρ1 v r s1 S1 r1 q => ?_
  cases r with
  | d d => exact hq F1 H1 ρ1 v d s1 S1 r1 q
  | c c =>
    obtain ⟨p, ev, fp⟩ := r1
    subst ev
    cases ef : c.froz with
    | none =>
      obtain ⟨r, ρ', e, q⟩ := q
      have e : PL.bnd (PL.opt c.froz) k ρ1 = some (r, ρ') := e
      rw [ef] at e
      cases e
    | some d =>
      obtain ⟨F2, s2, rp, S2⟩ := fp.frz S1 ef
      refine hq F2 H1 ρ1 _ d (s1.trans s2) S2 rp ?_
      have q2 := q.mono s2
      obtain ⟨r, ρ', e, q⟩ := q2
      have e : PL.bnd (PL.opt c.froz) k ρ1 = some (r, ρ') := e
      rw [ef] at e
      exact ⟨r, ρ', e, q⟩
theorem Sat.to {D : Ends} {s : M Fl} (h : Sat K ct W D fr F ρ s) (S : Rel K ct fr F H σ ρ) : TSt K ct W s D σ H := ⟨fr, F, ρ, S, h⟩
theorem Sat.nx {D : Ends} (h : Sat K ct W D fr F ρ (pur .nx)) {σ' : L2.St} {H' : Hp} (s : Same F F') (S : Rel K ct fr F' H' σ' ρ) : D.nx σ' H' := by
  obtain ⟨r, ρ', e, q⟩ := h
  cases e
  exact q σ' F' H' s S
theorem Rel.npar (S : Rel K ct fr F H σ ρ) {i : Nat} {s : Sl} (e : ρ[i]? = some s) (h : ∀ c, s ≠ .cel .par c) : fr.pa i = none := by
  cases z : fr.pa i with
  | none => rfl
  | some q =>
    obtain ⟨k1, c1, h1, h2⟩ := S.pcs i q z
    rw [e] at h1
    cases h1
    cases k1 with
    | own => cases h2
    | par => exact absurd rfl (h c1)
theorem Sat.setD {D : Ends} {i : Nat} {d : PL.D} {v : V} (h : Sat K ct W D fr F ρ (PL.setD i d)) (S : Rel K ct fr F H σ ρ) (r : Rp K ct.ad F v d) : D.nx (σ.set i (some v)) H := by
  obtain ⟨r0, ρ', e, q⟩ := h
  unfold PL.setD at e
  split at e
  · cases e
  · rename_i s hn hs
    cases e
    exact q _ F H (Same.refl _) (S.setD r (S.npar hs hn))
  · cases e
theorem Sat.setC {D : Ends} {i : Nat} {c : CC} {p : Addr} (h : Sat K ct W D fr F ρ (PL.setC i c)) (S : Rel K ct fr F H σ ρ) (r : Fresh K ct.ad fr F H σ ρ p c) : D.nx (σ.set i (some (.ref p))) H := by
  obtain ⟨r0, ρ', e, q⟩ := h
  unfold PL.setC at e
  split at e
  · cases e
  · rename_i s hn hs
    cases e
    exact q _ F H (Same.refl _) (S.setC r (S.npar hs hn))
  · cases e
section
variable {X : Cx} {e : Expr} {m : Ev} {pos pos' : Pos} {s t : M Fl} {tb : M Bool} {st : Stmt} {sts : List Stmt}
theorem ss_c (h1 : PS X st (TSt K ct W s)) (h2 : PSs X sts (TSt K ct W t)) : PSs X (st :: sts) (TSt K ct W (evSeq s t)) := (pss_cons h1 h2).imp fun D σ H h => by
  obtain ⟨fr, F, ρ, S, r, ρ', e, q⟩ := h
  refine ⟨fr, F, ρ, S, ?_⟩
  unfold evSeq at e
  cases es : s ρ with
  | none => rw [es] at e; cases e
  | some x =>
    obtain ⟨r1, ρ1⟩ := x
    rw [es] at e
    refine ⟨r1, ρ1, es, ?_⟩
    cases r1 with
    | ok fl =>
      cases fl with
      | nx =>
        intro σ1 F1 H1 s1 S1
        refine ⟨fr, F1, ρ1, S1, Sat.mono ⟨r, ρ', e, q⟩ s1⟩
      | bk => cases e; exact q
      | ct => cases e; exact q
      | rt x => cases e; exact q
    | er c pl => cases e; exact q
theorem ss_1 (h1 : PS X st (TSt K ct W s)) : PSs X [st] (TSt K ct W s) := (pss_one h1).imp fun D σ H h => h
theorem ss_n : PSs X [] (TSt K ct W evNx) := pss_nil.imp fun D σ H ⟨fr, F, ρ, S, h⟩ => h.nx (Same.refl _) S
theorem s_set {i : Nat} {x : Str} (hN : X.N.Nodup) (hi : X.N[i]? = some x) (hx : Loc X.env.scope x) (he : PE X e (TP K ct W m)) (hs : swapsWith e (some (.Name x pos')) pos.line X.env = pure false := by rfl) (hf : X.fn x = true ∨ X.env.scope.names.lookup x = some .local := by first | exact .inl rfl | exact .inr rfl | assumption) :
    PS X (.Assign [.Name x pos'] e pos) (TSt K ct W (evAsg i m)) := (ps_set hN hi hx he hs hf).imp fun D σ H ⟨fr, F, ρ, S, h⟩ => h.dat S fun F1 H1 ρ1 v d s1 S1 r1 h => h.setD S1 r1
theorem w_setC {i : Nat} {D : Ends} (h : TSt K ct W (evAsgC i m) D σ H) : tAsg (TP K ct W m) (gName i) D σ H := by
  obtain ⟨fr, F, ρ, S, h⟩ := h
  refine Sat.bnd K ct h S (fun _ _ _ _ z => z) fun F1 H1 ρ1 v r s1 S1 r1 h => ?_
  cases r with
  | d d => obtain ⟨_, _, e, _⟩ := h; cases e
  | c c => obtain ⟨p, ev, fp⟩ := r1; subst ev; exact Sat.setC h S1 fp
theorem w_setD {i : Nat} {D : Ends} (h : TSt K ct W (evAsg i m) D σ H) : tAsg (TP K ct W m) (gName i) D σ H := by
  obtain ⟨fr, F, ρ, S, h⟩ := h
  exact h.dat S fun F1 H1 ρ1 v d s1 S1 r1 h => h.setD S1 r1
theorem s_setC {i : Nat} {x : Str} (hN : X.N.Nodup) (hi : X.N[i]? = some x) (hx : Loc X.env.scope x) (he : PE X e (TP K ct W m)) (hs : swapsWith e (some (.Name x pos')) pos.line X.env = pure false := by rfl) (hf : X.fn x = true ∨ X.env.scope.names.lookup x = some .local := by first | exact .inl rfl | exact .inr rfl | assumption) :
    PS X (.Assign [.Name x pos'] e pos) (TSt K ct W (evAsgC i m)) := (ps_set hN hi hx he hs hf).imp fun D σ H => w_setC
theorem s_ex (he : PE X e (TP K ct W m)) (hs : swapsWith e none pos.line X.env = pure false := by rfl) : PS X (.Expr e pos) (TSt K ct W (evEx m)) := (ps_expr he hs).imp fun D σ H ⟨fr, F, ρ, S, h⟩ => Sat.bnd K ct h S (fun _ _ _ _ z => z) fun F1 H1 ρ1 v r s1 S1 r1 h => Sat.nx h (Same.refl _) S1
theorem s_ret (he : PE X e (TP K ct W m)) : PS X (.Return (some e) pos) (TSt K ct W (evRet m)) := (ps_ret he).imp fun D σ H ⟨fr, F, ρ, S, h⟩ => Sat.bnd K ct h S (fun _ _ _ _ z => z) fun F1 H1 ρ1 v r s1 S1 r1 ⟨_, _, e, q⟩ => by
  cases e
  exact q σ v F1 H1 (Same.refl _) S1 r1
theorem s_retN : PS X (.Return none pos) (TSt K ct W (pur (.rt (.d .non)))) := ps_retN.imp fun D σ H ⟨fr, F, ρ, S, _, _, e, q⟩ => by
  cases e
  exact q σ .non F H (Same.refl _) S Rp.non
theorem s_pass : PS X (.Pass pos) (TSt K ct W evNx) := ps_pass.imp fun D σ H ⟨fr, F, ρ, S, h⟩ => h.nx (Same.refl _) S
theorem s_bk : PS X (.Break pos) (TSt K ct W (pur .bk)) := ps_break.imp fun D σ H ⟨fr, F, ρ, S, _, _, e, q⟩ => by
  cases e
  exact q σ F H (Same.refl _) S
theorem s_ct : PS X (.Continue pos) (TSt K ct W (pur .ct)) := ps_continue.imp fun D σ H ⟨fr, F, ρ, S, _, _, e, q⟩ => by
  cases e
  exact q σ F H (Same.refl _) S
theorem s_if {c : Expr} {a b : List Stmt} (hc : PT X c (TB K ct W tb)) (ha : PSs X a (TSt K ct W s)) (hb : PSs X b (TSt K ct W t)) : PS X (.If c a b pos) (TSt K ct W (evIf tb s t)) := (ps_if hc ha hb).imp fun D σ H ⟨fr, F, ρ, S, h⟩ =>
  Sat.bnd K ct h S (fun _ _ _ _ z => z) fun F1 H1 ρ1 v c s1 S1 r1 h => by
    cases r1
    cases v with
    | true => rw [if_pos rfl]; exact h.to S1
    | false => rw [if_neg Bool.false_ne_true]; exact h.to S1
end
/-! ### targets -/
inductive Tg | n (i : Nat) | t (ts : List Tg)
mutual
def asgT : Tg → D → M Fl
  | .n i, d => setD i d
  | .t ts, .tup xs => asgTs ts xs
  | .t _, _ => fai
def asgTs : List Tg → List D → M Fl
  | [], [] => pur .nx
  | t :: ts, x :: xs => evSeq (asgT t x) (asgTs ts xs)
  | _, _ => fai
end
mutual
def Tg.sl : Tg → List Nat
  | .n i => [i]
  | .t ts => Tg.sls ts
def Tg.sls : List Tg → List Nat
  | [] => []
  | x :: xs => Tg.sl x ++ Tg.sls xs
end
/-- the slots outside vs are as they were -/
def OutS (vs : List Nat) (σ σ' : L2.St) : Prop := σ'.length = σ.length ∧ ∀ i, i ∉ vs → σ'[i]? = σ[i]?
theorem OutS.refl {vs : List Nat} {σ : L2.St} : OutS vs σ σ := ⟨rfl, fun _ _ => rfl⟩
theorem OutS.trans {vs : List Nat} {σ σ1 σ2 : L2.St} (a : OutS vs σ σ1) (b : OutS vs σ1 σ2) : OutS vs σ σ2 := ⟨b.1.trans a.1, fun i h => (b.2 i h).trans (a.2 i h)⟩
theorem OutS.sub {vs ws : List Nat} {σ σ1 : L2.St} (a : OutS vs σ σ1) (h : ∀ i ∈ vs, i ∈ ws) : OutS ws σ σ1 := ⟨a.1, fun i q => a.2 i fun z => q (h i z)⟩
theorem wipe_get (σ : L2.St) : ∀ (vs : List Nat) (i : Nat), (wipe σ vs)[i]? = if i ∈ vs ∧ i < σ.length then some none else σ[i]?
  | [], i => by simp [wipe]
  | v :: vs, i => by
    have ih := wipe_get σ vs i
    show ((wipe σ vs).set v none)[i]? = _
    by_cases q : v = i
    · subst q
      by_cases l : v < σ.length
      · rw [List.getElem?_set_self (by rw [wipe_length]; exact l), if_pos ⟨List.mem_cons_self, l⟩]
      · rw [List.getElem?_eq_none (by rw [List.length_set, wipe_length]; omega), if_neg (fun z => l z.2), List.getElem?_eq_none (by omega)]
    · rw [List.getElem?_set_ne q, ih]
      by_cases m : i ∈ vs
      · by_cases l : i < σ.length
        · rw [if_pos ⟨m, l⟩, if_pos ⟨List.mem_cons_of_mem _ m, l⟩]
        · rw [if_neg (fun z => l z.2), if_neg (fun z => l z.2)]
      · rw [if_neg (fun z => m z.1), if_neg (fun z => (List.mem_cons.mp z.1).elim (fun w => q w.symm) m)]
theorem OutS.wipe {vs : List Nat} {σ σ' : L2.St} (a : OutS vs σ σ') : L2.wipe σ' vs = L2.wipe σ vs := by
  refine List.ext_getElem? fun i => ?_
  rw [wipe_get, wipe_get, a.1]
  split
  · rfl
  · rename_i h
    by_cases m : i ∈ vs
    · have l : ¬ i < σ.length := fun z => h ⟨m, z⟩
      rw [List.getElem?_eq_none (by rw [a.1]; omega), List.getElem?_eq_none (by omega)]
    · exact a.2 i m
theorem OutS.set {i : Nat} {v : Option V} {σ : L2.St} : OutS [i] σ (σ.set i v) := ⟨by simp, fun j h => List.getElem?_set_ne (fun z => h (by simp [z]))⟩
variable (K ct) in
def TGt (tg : Tg) : TG := fun v σ H Q => ∃ fr F ρ d ρ', Rel K ct fr F H σ ρ ∧ Rp K ct.ad F v d ∧ asgT tg d ρ = some (.ok .nx, ρ') ∧ ∀ σ' F' H', Same F F' → OutS tg.sl σ σ' → Rel K ct fr F' H' σ' ρ' → Q σ' H'
variable (K ct) in
def TGts (tg : List Tg) : TGs := fun vs σ H Q => ∃ fr F ρ ds ρ', Rel K ct fr F H σ ρ ∧ Rps K ct.ad F vs ds ∧ asgTs tg ds ρ = some (.ok .nx, ρ') ∧ ∀ σ' F' H', Same F F' → OutS (Tg.sls tg) σ σ' → Rel K ct fr F' H' σ' ρ' → Q σ' H'
theorem setD_ok {i : Nat} {d : D} {v : V} {ρ' : List Sl} (e : setD i d ρ = some (.ok .nx, ρ')) (S : Rel K ct fr F H σ ρ) (r : Rp K ct.ad F v d) : Rel K ct fr F H (σ.set i (some v)) ρ' := by
  unfold PL.setD at e
  split at e
  · cases e
  · rename_i s hn hs
    cases e
    exact S.setD r (S.npar hs hn)
  · cases e
section
variable {X : Cx} {pos : Pos}
theorem _root_.L2.PGs.imp {es : List Expr} {t t' : TGs} (h : PGs X es t) (w : ∀ v σ H Q, t' v σ H Q → t v σ H Q) : PGs X es t' := ⟨fun pins s σ H v u Q I r q => h.run pins s σ H v u Q I r (w v σ H Q q)⟩
theorem g_n {i : Nat} {x : Str} (hN : X.N.Nodup) (hi : X.N[i]? = some x) (hx : Loc X.env.scope x) (hf : X.fn x = true ∨ X.env.scope.names.lookup x = some .local := by first | exact .inl rfl | exact .inr rfl | assumption) : PG X (.Name x pos) (TGt K ct (.n i)) :=
  (pg_name hN hi hx hf).imp fun v σ H Q ⟨fr, F, ρ, d, ρ', S, r, e, q⟩ => q _ F H (Same.refl _) OutS.set (setD_ok e S r)
theorem gs_n : PGs X [] (TGts K ct []) := pgs_nil.imp fun v σ H Q ⟨fr, F, ρ, ds, ρ', S, r, e, q⟩ => by
  cases ds with
  | nil => cases r; cases e; exact ⟨rfl, q σ F H (Same.refl _) OutS.refl S⟩
  | cons d ds => cases e
theorem gs_c {e : Expr} {es : List Expr} {t : Tg} {ts : List Tg} (h1 : PG X e (TGt K ct t)) (h2 : PGs X es (TGts K ct ts))
    (hs : (assignEach (e :: es) X.env).map (·.2) = assign e X.env :: (assignEach es X.env).map (·.2) := by rfl) : PGs X (e :: es) (TGts K ct (t :: ts)) := (pgs_cons h1 h2 hs).imp fun vs σ H Q ⟨fr, F, ρ, ds, ρ', S, r, e, q⟩ => by
  cases ds with
  | nil => cases e
  | cons d ds =>
    cases r with
    | @cons v _ vs _ r rs =>
      have e : evSeq (asgT t d) (asgTs ts ds) ρ = some (.ok .nx, ρ') := e
      unfold evSeq at e
      split at e
      · rename_i ρ1 h1
        refine ⟨v, vs, rfl, fr, F, ρ, d, ρ1, S, r, h1, fun σ1 F1 H1 s1 o1 S1 => ?_⟩
        exact ⟨fr, F1, ρ1, ds, ρ', S1, rs.mono s1, e, fun σ2 F2 H2 s2 o2 S2 => q σ2 F2 H2 (s1.trans s2) (by rw [Tg.sls]; exact (o1.sub fun i z => List.mem_append_left _ z).trans (o2.sub fun i z => List.mem_append_right _ z)) S2⟩
      · rename_i h1
        exact absurd e (h1 ρ')
theorem g_t {es : List Expr} {k : Nat} {ts : List Tg} (eK : X.K = K) (hc : X.calm = true) (h : PGs X es (TGts K ct ts)) (hn : (assignEach es X.env).length = ts.length := by rfl) (hst : (assignEach es X.env).findIdx? (·.1) = none := by rfl) : PG X (.Tuple es k pos) (TGt K ct (.t ts)) := by
  subst eK
  refine (pg_tup (n := ts.length) hc h hn hst).imp fun v σ H Q ⟨fr, F, ρ, d, ρ', S, r, e, q⟩ => ?_
  cases d with
  | tup xs =>
    cases r with
    | @tup p vs _ h1 k1 =>
      have e : asgTs ts xs ρ = some (.ok .nx, ρ') := e
      have lens : ∀ (ts : List Tg) (xs : List D) (ρ ρ' : List Sl), asgTs ts xs ρ = some (.ok .nx, ρ') → xs.length = ts.length := by
        intro ts
        induction ts with
        | nil => intro xs ρ ρ' e; cases xs with | nil => rfl | cons _ _ => cases e
        | cons t ts ih =>
          intro xs ρ ρ' e
          cases xs with
          | nil => cases e
          | cons x xs =>
            have e : evSeq (asgT t x) (asgTs ts xs) ρ = some (.ok .nx, ρ') := e
            unfold evSeq at e
            split at e
            · rename_i ρ1 h1; rw [List.length_cons, List.length_cons, ih _ _ _ e]
            · rename_i h1; exact absurd e (h1 ρ')
      exact ⟨p, vs, rfl, sameT S.fh h1, by rw [k1.len]; exact lens _ _ _ _ e, fr, F, ρ, xs, ρ', S, k1, e, q⟩
  | _ => cases e
/-- a, b = e -/
def evAsgT (tg : Tg) (e : Ev) : M Fl := bnd (dat e) fun d => fun ρ => match asgT tg d ρ with | some (.ok .nx, ρ') => some (.ok .nx, ρ') | _ => none
theorem s_asgT {tg e : Expr} {t : Tg} {m : Ev} (he : PE X e (TP K ct W m)) (hg : PG X tg (TGt K ct t)) (hs : swapsWithSole [tg] e pos.line X.env = pure false := by rfl) (hw : swappedStores [tg] e X.env = pure none := by rfl)
    (h1 : (assignEach [tg] X.env).map (·.2) = [assign tg X.env] := by rfl) : PS X (.Assign [tg] e pos) (TSt K ct W (evAsgT t m)) := (ps_asg he hg hs hw h1).imp fun D σ H ⟨fr, F, ρ, S, h⟩ => h.dat S fun F1 H1 ρ1 v d s1 S1 r1 ⟨r, ρ', e, q⟩ => by
  have e : (match asgT t d ρ1 with | some (.ok .nx, ρ') => some (Ex.ok Fl.nx, ρ') | _ => none) = some (r, ρ') := e
  split at e
  · rename_i ρ2 h2
    cases e
    exact ⟨fr, F1, ρ1, d, _, S1, r1, h2, fun σ' F' H' s' _ S' => q σ' F' H' s' S'⟩
  · cases e
end
/-! ### loops -/
/-- heaps that grow by new objects -/
def Al (F H F' H' : Hp) : Prop := Same F F' ∧ Same H H' ∧ Same F' H' ∧ ∀ b, H b ≠ none → F b = none → F' b = none
theorem Rel.al (S : Rel K ct fr F H σ ρ) (a : Al F H F' H') : Rel K ct fr F' H' σ ρ := S.grow a.1 a.2.1 a.2.2.1 a.2.2.2
theorem Al.refl (s : Same F H) : Al F H F H := ⟨Same.refl _, Same.refl _, s, fun _ _ z => z⟩
variable (K ad) in
def ItOk (F : Hp) (xs : List D) (J : It) : Prop := ∀ F1 H1, Same F F1 → Same F1 H1 → ∀ i, (∀ x, xs[i]? = some x → J.go i H1 ∧ ∀ v H2, J.yld i H1 v H2 → ∃ F2, Al F1 H1 F2 H2 ∧ Rp K ad F2 v x) ∧ (xs.length ≤ i → J.stop i H1)
variable (K ad) in
def RI : Rel3 It (List D) := fun _ F _ _ _ J xs => ItOk K ad F xs J
variable (K ct) in
abbrev TIt (W : WX) (m : M (List D)) : TI := T K ct (RI K ct.ad) W m
def loop (tg : Tg) (body : M Fl) : List D → M Fl
  | [] => pur .nx
  | x :: xs => fun ρ => match asgT tg x ρ with
    | some (.ok .nx, ρ1) => (match body ρ1 with
      | some (.ok .nx, ρ2) => loop tg body xs ρ2
      | some (.ok .ct, ρ2) => loop tg body xs ρ2
      | some (.ok .bk, ρ2) => some (.ok .nx, ρ2)
      | r => r)
    | _ => none
def evFor (it : M (List D)) (tg : Tg) (body : M Fl) : M Fl := bnd it fun xs => loop tg body xs
theorem w_for {it : M (List D)} {tg : Tg} {body : M Fl} {D : Ends} (h : TSt K ct W (evFor it tg body) D σ H) : tFor (TIt K ct W it) (TGt K ct tg) (TSt K ct W body) D σ H := by
  obtain ⟨fr, F, ρ, S, h⟩ := h
  refine Sat.bnd K ct h S (fun _ _ _ _ z => z) fun F1 H1 ρ1 J xs s1 S1 r1 h => ?_
  refine ⟨fun i m σ H => m = xs.length - i ∧ i ≤ xs.length ∧ ∃ F2 ρ2, Same F1 F2 ∧ Rel K ct fr F2 H σ ρ2 ∧ Sat K ct W D fr F2 ρ2 (loop tg body (xs.drop i)), ⟨xs.length, by simp, Nat.zero_le _, F1, ρ1, Same.refl _, S1, h⟩, ?_⟩
  rintro i m σ2 H2 ⟨rfl, hi, F2, ρ2, s2, S2, h2⟩
  have it := r1 F2 H2 s2 S2.fh i
  by_cases lt : i < xs.length
  · refine .inr ?_
    obtain ⟨go, yl⟩ := it.1 xs[i] (List.getElem?_eq_getElem lt)
    refine ⟨go, fun σ' H' => ∃ F3 ρ3, Same F1 F3 ∧ Rel K ct fr F3 H' σ' ρ3 ∧ Sat K ct W D fr F3 ρ3 (loop tg body (xs.drop (i + 1))), fun σ' H' ⟨F3, ρ3, s3, S3, h3⟩ => ⟨xs.length - (i + 1), by omega, rfl, lt, F3, ρ3, s3, S3, h3⟩, fun v H3 y => ?_⟩
    obtain ⟨F3, al, rp⟩ := yl v H3 y
    have S3 := S2.al al
    rw [List.drop_eq_getElem_cons lt] at h2
    have h2 := Sat.mono h2 al.1
    obtain ⟨r, ρ', e, q⟩ := h2
    unfold loop at e
    cases ea : asgT tg xs[i] ρ2 with
    | none => rw [ea] at e; cases e
    | some x =>
      obtain ⟨rx, ρ4⟩ := x
      rw [ea] at e
      cases rx with
      | er c pl => cases e
      | ok fl =>
        cases fl with
        | nx =>
          refine ⟨fr, F3, ρ2, xs[i], ρ4, S3, rp, ea, fun σ4 F4 H4 s4 _ S4 => ⟨fr, F4, ρ4, S4, ?_⟩⟩
          have e : (match body ρ4 with | some (.ok .nx, ρ2) => loop tg body (xs.drop (i + 1)) ρ2 | some (.ok .ct, ρ2) => loop tg body (xs.drop (i + 1)) ρ2 | some (.ok .bk, ρ2) => some (.ok .nx, ρ2) | r => r) = some (r, ρ') := e
          cases eb : body ρ4 with
          | none => rw [eb] at e; cases e
          | some y =>
            obtain ⟨ry, ρ5⟩ := y
            rw [eb] at e
            have sF : Same F1 F4 := (s2.trans al.1).trans s4
            have next : ∀ (e : loop tg body (xs.drop (i + 1)) ρ5 = some (r, ρ')) σ' F' H', Same F4 F' → Rel K ct fr F' H' σ' ρ5 → ∃ F3 ρ3, Same F1 F3 ∧ Rel K ct fr F3 H' σ' ρ3 ∧ Sat K ct W D fr F3 ρ3 (loop tg body (xs.drop (i + 1))) := fun e σ' F' H' s' S' =>
              ⟨F', ρ5, sF.trans s', S', Sat.mono (F := F3) ⟨r, ρ', e, q⟩ (s4.trans s')⟩
            refine ⟨ry, ρ5, eb, ?_⟩
            cases ry with
            | er c pl => cases e; exact fun σ' d F' H' s' => q σ' d F' H' (s4.trans s')
            | ok fl =>
              cases fl with
              | nx => exact next e
              | ct => exact next e
              | bk => cases e; exact fun σ' F' H' s' => q σ' F' H' (s4.trans s')
              | rt x => cases e; exact fun σ' v F' H' s' => q σ' v F' H' (s4.trans s')
        | _ => cases e
  · refine .inl ⟨it.2 (by omega), ?_⟩
    rw [List.drop_eq_nil_of_le (by omega)] at h2
    exact Sat.nx h2 (Same.refl _) S2
theorem s_for {X : Cx} {tg iter : Expr} {body : List Stmt} {it : M (List D)} {t : Tg} {b : M Fl} {pos : Pos} (hp : PassesOwn (model X.prog X.w) X.A X.env X.xe) (hc : X.calm = true) (hi : PI X tg iter (TIt K ct W it)) (hg : PG X tg (TGt K ct t)) (hb : PSs X body (TSt K ct W b))
    (hs : ∀ x, foldedSetIterable iter X.env x = pure x := by intro _; rfl) : PS X (.For tg iter body [] pos) (TSt K ct W (evFor it t b)) := (ps_for hp hc hi hg hb hs).imp fun D σ H => w_for
/-! while -/
def whl (t : M Bool) (body : M Fl) : Nat → M Fl
  | 0 => fai
  | n + 1 => bnd t fun c => if c then (fun ρ => match body ρ with
      | some (.ok .nx, ρ1) => whl t body n ρ1
      | some (.ok .ct, ρ1) => whl t body n ρ1
      | some (.ok .bk, ρ1) => some (.ok .nx, ρ1)
      | r => r) else pur .nx
open Classical in
/-- what a while that ends gives -/
noncomputable def evWhl (t : M Bool) (body : M Fl) : M Fl := fun ρ => if h : ∃ n r, whl t body n ρ = some r then some h.choose_spec.choose else none
theorem whl_mono {t : M Bool} {body : M Fl} : ∀ {n m : Nat} {ρ : List Sl} {r : Ex Fl × List Sl}, n ≤ m → whl t body n ρ = some r → whl t body m ρ = some r
  | 0, _, _, _, _, h =>
    by cases h
  | n + 1, 0, _, _, l, _ => by omega
  | n + 1, m + 1, ρ, r, l, h => by
    unfold whl at h ⊢
    unfold bnd at h ⊢
    cases et : t ρ with
    | none => rw [et] at h; cases h
    | some x =>
      obtain ⟨rx, ρ1⟩ := x
      rw [et] at h
      cases rx with
      | er c pl => exact h
      | ok b =>
        cases b with
        | false => exact h
        | true =>
          have h : (match body ρ1 with | some (.ok .nx, ρ1) => whl t body n ρ1 | some (.ok .ct, ρ1) => whl t body n ρ1 | some (.ok .bk, ρ1) => some (.ok .nx, ρ1) | r => r) = some r := h
          show (match body ρ1 with | some (.ok .nx, ρ1) => whl t body m ρ1 | some (.ok .ct, ρ1) => whl t body m ρ1 | some (.ok .bk, ρ1) => some (.ok .nx, ρ1) | r => r) = some r
          cases eb : body ρ1 with
          | none => rw [eb] at h; cases h
          | some y =>
            obtain ⟨ry, ρ2⟩ := y
            rw [eb] at h
            cases ry with
            | er c pl => exact h
            | ok fl =>
              cases fl with
              | nx => exact whl_mono (by omega) h
              | ct => exact whl_mono (by omega) h
              | bk => exact h
              | rt x => exact h
theorem evWhl_of {t : M Bool} {body : M Fl} {n : Nat} {ρ : List Sl} {r : Ex Fl × List Sl} (h : whl t body n ρ = some r) : evWhl t body ρ = some r := by
  unfold evWhl
  have ex : ∃ n r, whl t body n ρ = some r := ⟨n, r, h⟩
  rw [dif_pos ex]
  have h2 := ex.choose_spec.choose_spec
  have a := whl_mono (Nat.le_max_left n ex.choose) h
  have b := whl_mono (Nat.le_max_right n ex.choose) h2
  rw [a] at b
  exact congrArg some (Option.some.inj b).symm
theorem evWhl_inv {t : M Bool} {body : M Fl} {ρ : List Sl} {r : Ex Fl × List Sl} (h : evWhl t body ρ = some r) : ∃ n, whl t body n ρ = some r := by
  unfold evWhl at h
  split at h
  · rename_i ex
    cases h
    exact ⟨_, ex.choose_spec.choose_spec⟩
  · cases h
theorem w_whl {t : M Bool} {body : M Fl} {D : Ends} (h : TSt K ct W (evWhl t body) D σ H) : tWhile (TB K ct W t) (TSt K ct W body) D σ H := by
  obtain ⟨fr, F, ρ, S, r, ρ', e, q⟩ := h
  obtain ⟨n, e⟩ := evWhl_inv e
  refine ⟨fun m σ H => ∃ F1 ρ1, Same F F1 ∧ Rel K ct fr F1 H σ ρ1 ∧ Sat K ct W D fr F1 ρ1 (whl t body m), ⟨n, F, ρ, Same.refl _, S, r, ρ', e, q⟩, ?_⟩
  rintro m σ1 H1 ⟨F1, ρ1, s1, S1, h⟩
  cases m with
  | zero => obtain ⟨_, _, e, _⟩ := h; cases e
  | succ m =>
    refine Sat.bnd K ct h S1 (fun _ _ _ _ z => z) fun F2 H2 ρ2 v c s2 S2 r2 h => ?_
    cases r2
    cases v with
    | false => rw [if_neg Bool.false_ne_true]; exact Sat.nx h (Same.refl _) S2
    | true =>
      rw [if_pos rfl]
      refine ⟨fun σ' H' => ∃ F1 ρ1, Same F F1 ∧ Rel K ct fr F1 H' σ' ρ1 ∧ Sat K ct W D fr F1 ρ1 (whl t body m), fun σ' H' z => ⟨m, Nat.lt_succ_self m, z⟩, fr, F2, ρ2, S2, ?_⟩
      obtain ⟨r, ρ', e, q⟩ := h
      have e : (match body ρ2 with | some (.ok .nx, ρ1) => whl t body m ρ1 | some (.ok .ct, ρ1) => whl t body m ρ1 | some (.ok .bk, ρ1) => some (.ok .nx, ρ1) | r => r) = some (r, ρ') := e
      cases eb : body ρ2 with
      | none => rw [eb] at e; cases e
      | some y =>
        obtain ⟨ry, ρ5⟩ := y
        rw [eb] at e
        have next : ∀ (e : whl t body m ρ5 = some (r, ρ')) σ' F' H', Same F2 F' → Rel K ct fr F' H' σ' ρ5 → ∃ F1 ρ1, Same F F1 ∧ Rel K ct fr F1 H' σ' ρ1 ∧ Sat K ct W D fr F1 ρ1 (whl t body m) := fun e σ' F' H' s' S' =>
          ⟨F', ρ5, (s1.trans s2).trans s', S', Sat.mono (F := F2) ⟨r, ρ', e, q⟩ s'⟩
        refine ⟨ry, ρ5, eb, ?_⟩
        cases ry with
        | er c pl => cases e; exact q
        | ok fl =>
          cases fl with
          | nx => exact next e
          | ct => exact next e
          | bk => cases e; exact q
          | rt x => cases e; exact q
theorem s_whl {X : Cx} {c : Expr} {body : List Stmt} {t : M Bool} {b : M Fl} {pos : Pos} (hp : PassesOwn (model X.prog X.w) X.A X.env X.xe) (hc : PT X c (TB K ct W t)) (hb : PSs X body (TSt K ct W b)) : PS X (.While c body [] pos) (TSt K ct W (evWhl t b)) := (ps_while hp hc hb).imp fun D σ H => w_whl
end PL
end
section
namespace PL
open PySem PySem.Spec PyProof.Rows L2
variable {K : PySem.W.Frag} {ad : Cl → Addr} {ct : CT}
variable {fr : Fr} {F F' H H' : Hp} {σ : L2.St} {ρ : List Sl} {W : WX}
/-! ### what is walked -/
def D.litems : D → Option (List D) | .lst xs => some xs | .sq xs => some xs | _ => none
def D.titems : D → Option (List D) | .tup xs => some xs | _ => none
def chars (z : Str) : List D := z.cps.toList.map fun c => .str ⟨#[c]⟩
def D.sitems : D → Option (List D) | .str z => some (chars z) | _ => none
def itL (e : Ev) : M (List D) := bnd (dat e) fun d => opt d.litems
def itT (e : Ev) : M (List D) := bnd (dat e) fun d => opt d.titems
def itS (e : Ev) : M (List D) := bnd (dat e) fun d => opt d.sitems
def rngD (lo : Int) (n : Nat) : List D := (List.range n).map fun (i : Nat) => .int (lo + i)
def itR1 (e : Ev) : M (List D) := bnd (dat e) fun d => match d with | .int j => if -(2 ^ 62) ≤ j ∧ j < 2 ^ 62 then pur (rngD 0 j.toNat) else fai | _ => fai
def itR2 (a b : Ev) : M (List D) := bnd (dat a) fun x => bnd (dat b) fun y => match x, y with
  | .int i, .int j => if -(2 ^ 62) ≤ i ∧ i < 2 ^ 62 ∧ -(2 ^ 62) ≤ j ∧ j < 2 ^ 62 then pur (rngD i (j - i).toNat) else fai
  | _, _ => fai
theorem it_lst {K : PySem.W.Frag} {p : Addr} {vs : List V} {xs : List D} (h : SqL K F p vs) (r : Rps K ct.ad F vs xs) : ItOk K ct.ad F xs (Itl K p) := by
  intro F1 H1 s1 s2 i
  have h1 : SqL K H1 p vs := (s1.trans s2).seq h
  refine ⟨fun x e => ?_, fun l => ⟨vs, h1, by rw [r.len]; exact l⟩⟩
  obtain ⟨v, e1, e2⟩ := r.get e
  refine ⟨⟨vs, v, h1, e1⟩, fun u H2 y => ?_⟩
  obtain ⟨y1, y2⟩ := y
  subst y1
  have := y2 vs h1
  rw [e1] at this
  cases this
  exact ⟨F1, Al.refl s2, e2.mono s1⟩
theorem it_tup {K : PySem.W.Frag} {p : Addr} {vs : List V} {xs : List D} (h : SqT K F p vs) (r : Rps K ct.ad F vs xs) : ItOk K ct.ad F xs (Itt K p) := by
  intro F1 H1 s1 s2 i
  have h1 : SqT K H1 p vs := sameT (s1.trans s2) h
  refine ⟨fun x e => ?_, fun l => ⟨vs, h1, by rw [r.len]; exact l⟩⟩
  obtain ⟨v, e1, e2⟩ := r.get e
  refine ⟨⟨vs, v, h1, e1⟩, fun u H2 y => ?_⟩
  obtain ⟨y1, y2⟩ := y
  subst y1
  have := y2 vs h1
  rw [e1] at this
  cases this
  exact ⟨F1, Al.refl s2, e2.mono s1⟩
theorem it_rng {lo : Int} {n : Nat} : ItOk K ct.ad F (rngD lo n) (Itr lo n) := by
  intro F1 H1 s1 s2 i
  refine ⟨fun x e => ?_, fun l => by unfold rngD at l; rw [List.length_map, List.length_range] at l; exact l⟩
  unfold rngD at e
  rw [List.getElem?_map] at e
  obtain ⟨j, e1, e2⟩ := Option.map_eq_some_iff.mp e
  obtain ⟨l, e3⟩ := List.getElem?_eq_some_iff.mp e1
  rw [List.length_range] at l
  rw [List.getElem_range] at e3
  subst e3
  subst e2
  refine ⟨l, fun v H2 y => ?_⟩
  obtain ⟨y1, y2⟩ := y
  subst y1 y2
  exact ⟨F1, Al.refl s2, .int _⟩
theorem it_str {z : Str} : ItOk K ct.ad F (chars z) (Its z) := by
  intro F1 H1 s1 s2 i
  refine ⟨fun x e => ?_, fun l => by unfold chars at l; rw [List.length_map, Array.length_toList] at l; exact l⟩
  unfold chars at e
  rw [List.getElem?_map] at e
  obtain ⟨c, e1, e2⟩ := Option.map_eq_some_iff.mp e
  subst e2
  have e1' : z.cps[i]? = some c := by rw [← Array.getElem?_toList]; exact e1
  refine ⟨(Array.getElem?_eq_some_iff.mp e1').1, fun v H2 y => ?_⟩
  obtain ⟨y1, c', y2, y3⟩ := y
  rw [e1'] at y2
  cases y2
  subst y1 y3
  exact ⟨F1, Al.refl s2, .str _⟩
section
variable {X : Cx} {tg l : Expr} {m : Ev}
theorem pi_l (eK : X.K = K) (hl : PE X l (TP K ct W m)) : PI X tg l (TIt K ct W (itL m)) := by
  subst eK
  refine (pi_list hl).imp fun σ H R h => ?_
  obtain ⟨fr, F, ρ, S, h⟩ := h
  refine Tat.dat h S fun F1 H1 ρ1 v d s1 S1 r1 h => ?_
  obtain ⟨xs, e1, q⟩ := h.opt
  cases d <;> cases e1
  · cases r1 with | lst h k => exact ⟨_, rfl, ⟨_, SqL.of (S1.fh _ _ h)⟩, q _ F1 H1 (Same.refl _) S1 (it_lst (SqL.of h) k)⟩
  · cases r1 with | sq h k => exact ⟨_, rfl, ⟨_, S1.fh.seq h⟩, q _ F1 H1 (Same.refl _) S1 (it_lst h k)⟩
theorem pi_t (eK : X.K = K) (hl : PE X l (TP K ct W m)) : PI X tg l (TIt K ct W (itT m)) := by
  subst eK
  refine (pi_tup hl).imp fun σ H R h => ?_
  obtain ⟨fr, F, ρ, S, h⟩ := h
  refine Tat.dat h S fun F1 H1 ρ1 v d s1 S1 r1 h => ?_
  obtain ⟨xs, e1, q⟩ := h.opt
  cases d <;> cases e1
  cases r1 with | tup h k => exact ⟨_, rfl, ⟨_, sameT S1.fh h⟩, q _ F1 H1 (Same.refl _) S1 (it_tup h k)⟩
theorem pi_s (hl : PE X l (TP K ct W m)) : PI X tg l (TIt K ct W (itS m)) := by
  refine (pi_str hl).imp fun σ H R h => ?_
  obtain ⟨fr, F, ρ, S, h⟩ := h
  refine Tat.dat h S fun F1 H1 ρ1 v d s1 S1 r1 h => ?_
  obtain ⟨xs, e1, q⟩ := h.opt
  cases d <;> cases e1
  rename_i z
  cases r1
  exact ⟨z, rfl, q _ F1 H1 (Same.refl _) S1 it_str⟩
theorem pi_r1 {a : Expr} {p pos : Pos} {m : Ev} (hg : Gl X "range") (hm : X.mg "range" = none) (ha : PE X a (TP K ct W m)) (hs : starEach [a] X.env = [(false, eval a X.env)] := by rfl) : PI X tg (.Call (.Name "range" p) [a] [] pos) (TIt K ct W (itR1 m)) := by
  refine (pi_range1 hg hm (pa_cons ha pa_nil (by rw [hs]; rfl)) hs).imp fun σ H R h => ?_
  obtain ⟨fr, F, ρ, S, h⟩ := h
  refine Tat.dat h S fun F1 H1 ρ1 v d s1 S1 r1 h => ?_
  cases d with
  | int j =>
    cases r1
    have h : Tat K ct (RI K ct.ad) W fr F1 ρ1 (if -(2 ^ 62) ≤ j ∧ j < 2 ^ 62 then pur (rngD 0 j.toNat) else fai) σ R := h
    split at h
    · rename_i c
      exact ⟨j, rfl, c.1, c.2, Tat.ok h _ F1 H1 (Same.refl _) S1 it_rng⟩
    · obtain ⟨_, _, e, _⟩ := h; cases e
  | _ => obtain ⟨_, _, e, _⟩ := h; cases e
theorem pi_r2 {a b : Expr} {p pos : Pos} {m n : Ev} (hg : Gl X "range") (hm : X.mg "range" = none) (ha : PE X a (TP K ct W m)) (hb : PE X b (TP K ct W n)) (hs : starEach [a, b] X.env = [(false, eval a X.env), (false, eval b X.env)] := by rfl) (hs2 : starEach [b] X.env = [(false, eval b X.env)] := by rfl) : PI X tg (.Call (.Name "range" p) [a, b] [] pos) (TIt K ct W (itR2 m n)) := by
  refine (pi_range2 hg hm (pa_cons ha (pa_cons hb pa_nil (by rw [hs2]; rfl)) (by rw [hs, hs2])) hs hs2).imp fun σ H R h => ?_
  obtain ⟨fr, F, ρ, S, h⟩ := h
  refine Tat.dat h S fun F1 H1 ρ1 v d s1 S1 r1 h => ?_
  refine Tat.dat h S1 fun F2 H2 ρ2 u e s2 S2 r2 h => ?_
  have r1 := r1.mono s2
  cases d with
  | int i =>
    cases e with
    | int j =>
      cases r1
      cases r2
      have h : Tat K ct (RI K ct.ad) W fr F2 ρ2 (if -(2 ^ 62) ≤ i ∧ i < 2 ^ 62 ∧ -(2 ^ 62) ≤ j ∧ j < 2 ^ 62 then pur (rngD i (j - i).toNat) else fai) σ R := h
      split at h
      · rename_i c
        exact ⟨i, j, rfl, c, Tat.ok h _ F2 H2 (Same.refl _) S2 it_rng⟩
      · obtain ⟨_, _, e, _⟩ := h; cases e
    | _ => obtain ⟨_, _, e, _⟩ := h; cases e
  | _ => obtain ⟨_, _, e, _⟩ := h; cases e
end
/-! ### comprehensions -/
def wipeR (ρ : List Sl) : List Nat → List Sl
  | [] => ρ
  | v :: vs => (wipeR ρ vs).set v .un
def okOwn (ρ : List Sl) (vs : List Nat) : Bool := vs.all fun v => match ρ[v]? with | some (.cel _ _) => false | some (.exn _ _) => false | _ => true
def restR (ρ0 ρ : List Sl) : List Nat → List Sl
  | [] => ρ
  | v :: vs => (restR ρ0 ρ vs).set v ((ρ0[v]?).getD .un)
def lcGo (vs : List Nat) (tg : Tg) (c : M Bool) (e : Ev) : List D → List D → M (List D)
  | [], acc => pur acc
  | x :: xs, acc => fun ρ => match asgT tg x ρ with
    | some (.ok .nx, ρ1) => bnd (noEr c) (fun b => if b then bnd (dat (noEr e)) (fun d => if acc.length < 16777216 then (fun ρ => lcGo vs tg c e xs (acc ++ [d]) (wipeR ρ vs)) else fai) else fun ρ => lcGo vs tg c e xs acc (wipeR ρ vs)) ρ1
    | _ => none
def lcRun (vs : List Nat) (m : List D → List D → M (List D)) (xs : List D) : Ev := fun ρ => if okOwn ρ vs then match m xs [] (wipeR ρ vs) with
    | some (.ok acc, ρ') => some (.ok (.c (.lst acc)), restR ρ ρ' vs)
    | _ => none
  else none
def evLc (vs : List Nat) (it : M (List D)) (tg : Tg) (c : M Bool) (e : Ev) : Ev := bnd it fun xs => lcRun vs (lcGo vs tg c e) xs
theorem okOwn_np {vs : List Nat} (S : Rel K ct fr F H σ ρ) (h : okOwn ρ vs = true) : ∀ v ∈ vs, fr.pa v = none := fun v hv => by
  have h1 := List.all_eq_true.mp h v hv
  cases z : fr.pa v with
  | none => rfl
  | some p =>
    obtain ⟨k, c, e, _⟩ := S.pcs v p z
    rw [e] at h1
    cases h1
theorem Rel.wipe : ∀ {vs : List Nat}, Rel K ct fr F H σ ρ → (∀ v ∈ vs, fr.pa v = none) → Rel K ct fr F H (L2.wipe σ vs) (wipeR ρ vs)
  | [], S, _ => S
  | v :: vs, S, h => (Rel.wipe S fun x hx => h x (List.mem_cons_of_mem _ hx)).setU (h v List.mem_cons_self)
theorem wipeR_len (ρ : List Sl) : ∀ vs : List Nat, (wipeR ρ vs).length = ρ.length
  | [] => rfl
  | v :: vs => by unfold wipeR; rw [List.length_set, wipeR_len ρ vs]
theorem restR_len (ρ0 ρ : List Sl) : ∀ vs : List Nat, (restR ρ0 ρ vs).length = ρ.length
  | [] => rfl
  | v :: vs => by unfold restR; rw [List.length_set, restR_len ρ0 ρ vs]
theorem restR_get (ρ0 ρ : List Sl) : ∀ (vs : List Nat) (i : Nat), (restR ρ0 ρ vs)[i]? = if i ∈ vs ∧ i < ρ.length then some ((ρ0[i]?).getD .un) else ρ[i]?
  | [], i => by simp [restR]
  | v :: vs, i => by
    have ih := restR_get ρ0 ρ vs i
    show ((restR ρ0 ρ vs).set v ((ρ0[v]?).getD .un))[i]? = _
    by_cases q : v = i
    · subst q
      by_cases l : v < ρ.length
      · rw [List.getElem?_set_self (by rw [restR_len]; exact l), if_pos ⟨List.mem_cons_self, l⟩]
      · rw [List.getElem?_eq_none (by rw [List.length_set, restR_len]; omega), if_neg (fun z => l z.2), List.getElem?_eq_none (by omega)]
    · rw [List.getElem?_set_ne q, ih]
      by_cases m : i ∈ vs
      · by_cases l : i < ρ.length
        · rw [if_pos ⟨m, l⟩, if_pos ⟨List.mem_cons_of_mem _ m, l⟩]
        · rw [if_neg (fun z => l z.2), if_neg (fun z => l z.2)]
      · rw [if_neg (fun z => m z.1), if_neg (fun z => (List.mem_cons.mp z.1).elim (fun w => q w.symm) m)]
/-- back from a block -/
theorem Rel.rest {vs : List Nat} {F0 H0 : Hp} {ρ0 : List Sl} (S0 : Rel K ct fr F0 H0 σ ρ0) (s : Same F0 F) (ok : okOwn ρ0 vs = true) (S : Rel K ct fr F H (L2.wipe σ vs) ρ) : Rel K ct fr F H σ (restR ρ0 ρ vs) := by
  have lr : ρ.length = ρ0.length := by rw [← S.len, wipe_length, S0.len]
  have out : ∀ {i : Nat}, i ∉ vs → (L2.wipe σ vs)[i]? = σ[i]? := fun {i} h => by rw [wipe_get, if_neg (fun z => h z.1)]
  have nc : ∀ {i : Nat} {k : CK} {c : CC}, (restR ρ0 ρ vs)[i]? = some (.cel k c) → i ∉ vs ∧ ρ[i]? = some (.cel k c) := fun {i k c} e => by
    rw [restR_get] at e
    split at e
    · rename_i h
      have h1 := List.all_eq_true.mp ok i h.1
      cases q : ρ0[i]? with
      | none =>
        rw [q] at e
        cases e
      | some x =>
        rw [q] at e h1
        have e : some x = some (Sl.cel k c) := e
        cases e
        cases h1
    · rename_i h
      refine ⟨fun m => h ⟨m, (List.getElem?_eq_some_iff.mp e).1⟩, e⟩
  refine ⟨by rw [restR_len, lr]; exact S0.len, S.fh, fun i s0 e => ?_, fun i j k c k' c' p e1 e2 h1 h2 => ?_, S.keep, S.fro, fun i p e => ?_⟩
  · rw [restR_get] at e
    split at e
    · rename_i h
      cases q : ρ0[i]? with
      | none =>
        rw [q] at e
        cases e
        have := List.getElem?_eq_none_iff.mp q
        omega
      | some x =>
        rw [q] at e
        have e : some x = some s0 := e
        cases e
        have h1 := List.all_eq_true.mp ok i h.1
        rw [q] at h1
        obtain ⟨o, g1, g2⟩ := S0.slot i _ q
        refine ⟨o, g1, ?_⟩
        cases s0 with
        | un => trivial
        | dat d => obtain ⟨v, a1, a2⟩ := g2; exact ⟨v, a1, a2.mono s⟩
        | cel k c => cases h1
        | exn c pl => cases h1
    · rename_i h
      have m : i ∉ vs := fun m => h ⟨m, (List.getElem?_eq_some_iff.mp e).1⟩
      obtain ⟨o, g1, g2⟩ := S.slot i s0 e
      rw [out m] at g1
      exact ⟨o, g1, g2⟩
  · obtain ⟨m1, f1⟩ := nc e1
    obtain ⟨m2, f2⟩ := nc e2
    rw [← out m1] at h1
    rw [← out m2] at h2
    exact S.dis i j _ _ _ _ p f1 f2 h1 h2
  · obtain ⟨k, c, h1, h2⟩ := S.pcs i p e
    refine ⟨k, c, ?_, h2⟩
    rw [restR_get, if_neg]
    · exact h1
    · intro z
      have := okOwn_np S0 ok i z.1
      rw [e] at this
      cases this
/-- the new list stands aside -/
def Fr.prot (fr : Fr) (D : Addr) (o : HO) : Fr := { fr with P := upd fr.P D o, F0 := fun b => if b = D then none else fr.F0 b }
theorem Rel.prot (S : Rel K ct fr F H σ ρ) {D : Addr} {o : HO} (h : H D = none) : Rel K ct (fr.prot D o) F (upd H D o) σ ρ := by
  have S1 := S.newC (o := o) h
  have fD := S.nn h
  have cD : ∀ {i : Nat} {k : CK} {c : CC} {p : Addr}, ρ[i]? = some (.cel k c) → σ[i]? = some (some (.ref p)) → p ≠ D := fun {i k c p} e1 e2 z => by
    obtain ⟨p', o', g1, g2⟩ := S.cell_at e1
    rw [g1] at e2
    cases e2
    rw [z, h] at g2
    cases g2
  refine ⟨S1.len, S1.fh, fun i s e => ?_, S1.dis, fun b u e => ?_, fun b hb h0 => ?_, S1.pcs⟩
  · obtain ⟨u, g1, g2⟩ := S1.slot i s e
    refine ⟨u, g1, ?_⟩
    cases s with
    | un => trivial
    | dat d => exact g2
    | cel k c =>
      obtain ⟨p, a1, a2, a3, a4, a5, a6⟩ := g2
      subst a1
      refine ⟨p, rfl, a2, ?_, a4, a5, a6⟩
      show upd fr.P D o p = none
      rw [upd_ne (cD e g1)]
      exact a3
    | exn c pl => exact g2
  · have e : upd fr.P D o b = some u := e
    by_cases q : b = D
    · subst q; rw [upd_same] at e; rw [upd_same]; exact e
    · rw [upd_ne q] at e; rw [upd_ne q]; exact S.keep b u e
  · by_cases q : b = D
    · subst q; exact fD
    · have h0 : (if b = D then none else fr.F0 b) = none := h0
      rw [if_neg q] at h0
      have hb : upd fr.P D o b ≠ none := hb
      rw [upd_ne q] at hb
      exact S.fro b hb h0
theorem Rel.protD {D : Addr} {o : HO} (S : Rel K ct (fr.prot D o) F H σ ρ) : F D = none ∧ H D = some o := by
  refine ⟨S.fro D ?_ ?_, S.keep D o ?_⟩
  · show upd fr.P D o D ≠ none
    rw [upd_same]; simp
  · show (if D = D then none else fr.F0 D) = none
    rw [if_pos rfl]
  · show upd fr.P D o D = some o
    rw [upd_same]
/-- the new list grows -/
theorem Rel.reprot {D : Addr} {o o' : HO} (S : Rel K ct (fr.prot D o) F H σ ρ) : Rel K ct (fr.prot D o') F (upd H D o') σ ρ := by
  obtain ⟨fD, hD⟩ := S.protD
  have ne : ∀ {b : Addr} {u : HO}, F b = some u → b ≠ D := fun {b u} e z => by rw [z, fD] at e; cases e
  refine ⟨S.len, fun b u e => by rw [upd_ne (ne e)]; exact S.fh b u e, fun i s e => ?_, S.dis, fun b u e => ?_, fun b hb h0 => ?_, S.pcs⟩
  · obtain ⟨u, g1, g2⟩ := S.slot i s e
    refine ⟨u, g1, ?_⟩
    cases s with
    | un => trivial
    | dat d => exact g2
    | cel k c =>
      obtain ⟨p, a1, a2, a3, a4, a5, a6⟩ := g2
      subst a1
      have pD : p ≠ D := fun z => by
        have a3 : upd fr.P D o p = none := a3
        rw [z, upd_same] at a3
        cases a3
      refine ⟨p, rfl, a2, ?_, a4, a5, a6.keep (Same.refl _) (by rw [upd_ne pD])⟩
      have a3 : upd fr.P D o p = none := a3
      show upd fr.P D o' p = none
      rw [upd_ne pD] at a3 ⊢
      exact a3
    | exn c pl => exact g2
  · have e : upd fr.P D o' b = some u := e
    by_cases q : b = D
    · subst q; rw [upd_same] at e; rw [upd_same]; exact e
    · rw [upd_ne q] at e; rw [upd_ne q]; exact S.keep b u (by show upd fr.P D o b = some u; rw [upd_ne q]; exact e)
  · refine S.fro b ?_ h0
    have hb : upd fr.P D o' b ≠ none := hb
    show upd fr.P D o b ≠ none
    by_cases q : b = D
    · subst q; rw [upd_same]; simp
    · rw [upd_ne q] at hb ⊢; exact hb
/-- the new list is done -/
theorem Rel.unprot {D : Addr} {o : HO} {c : CC} (hP : fr.P D = none) (hp : ∀ j, fr.pa j ≠ some D) (S : Rel K ct (fr.prot D o) F H σ ρ) (r : CelR K ct.ad F H D c) : Rel K ct fr F H σ ρ ∧ Fresh K ct.ad fr F H σ ρ D c := by
  obtain ⟨fD, hD⟩ := S.protD
  have nP : ∀ {p : Addr}, (fr.prot D o).P p = none → p ≠ D ∧ fr.P p = none := fun {p} z => by
    have z : upd fr.P D o p = none := z
    by_cases q : p = D
    · subst q; rw [upd_same] at z; cases z
    · rw [upd_ne q] at z; exact ⟨q, z⟩
  refine ⟨⟨S.len, S.fh, fun i s e => ?_, S.dis, fun b u e => S.keep b u ?_, fun b hb h0 => ?_, S.pcs⟩, fD, hP, hp, r, fun i k c' e1 e2 => ?_⟩
  · obtain ⟨u, g1, g2⟩ := S.slot i s e
    refine ⟨u, g1, ?_⟩
    cases s with
    | un => trivial
    | dat d => exact g2
    | cel k c => obtain ⟨p, a1, a2, a3, a4, a5, a6⟩ := g2; exact ⟨p, a1, a2, (nP a3).2, a4, a5, a6⟩
    | exn c pl => exact g2
  · show upd fr.P D o b = some u
    rw [upd_ne (fun z => by rw [z, hP] at e; cases e)]; exact e
  · have q : b ≠ D := fun z => hb (by rw [z]; exact hP)
    refine S.fro b ?_ ?_
    · show upd fr.P D o b ≠ none
      rw [upd_ne q]; exact hb
    · show (if b = D then none else fr.F0 b) = none
      rw [if_neg q]; exact h0
  · obtain ⟨u, g1, p, a1, a2, a3, a4, a5, a6⟩ := S.slot i _ e1
    rw [g1] at e2
    subst a1
    cases e2
    exact (nP a3).1 rfl
theorem noErI {α : Type} {m : M α} {r : Ex α} {ρ1 : List Sl} (h : noEr m ρ = some (r, ρ1)) : ∃ a, r = .ok a ∧ m ρ = some (.ok a, ρ1) := by
  unfold noEr at h
  split at h
  · rename_i a ρ' e; cases h; exact ⟨a, rfl, e⟩
  · cases h
theorem bndI {α β : Type} {m : M α} {k : α → M β} {r : Ex β × List Sl} (h : bnd (noEr m) k ρ = some r) : ∃ a ρ1, m ρ = some (.ok a, ρ1) ∧ k a ρ1 = some r := by
  unfold bnd at h
  cases e : noEr m ρ with
  | none =>
    rw [e] at h
    cases h
  | some x =>
    obtain ⟨r1, ρ1⟩ := x
    obtain ⟨a, rfl, e2⟩ := noErI e
    rw [e] at h
    exact ⟨a, ρ1, e2, h⟩
theorem datI {β : Type} {m : Ev} {k : D → M β} {r : Ex β × List Sl} (h : bnd (dat (noEr m)) k ρ = some r) : (∃ d ρ1, m ρ = some (.ok (.d d), ρ1) ∧ k d ρ1 = some r) ∨ ∃ c d ρ1, m ρ = some (.ok (.c c), ρ1) ∧ c.froz = some d ∧ k d ρ1 = some r := by
  have e : bnd (dat (noEr m)) k = bnd (noEr m) fun r => bnd (match r with | Rv.d d => pur d | Rv.c c => PL.opt c.froz) k := by
    funext ρ
    unfold PL.dat PL.bnd
    cases em : noEr m ρ with
    | none => rfl
    | some x =>
      obtain ⟨r1, ρ1⟩ := x
      cases r1 with
      | ok a => cases a <;> rfl
      | er c pl => rfl
  rw [e] at h
  obtain ⟨a, ρ1, h1, h2⟩ := bndI h
  cases a with
  | d d => exact .inl ⟨d, ρ1, h1, h2⟩
  | c c =>
    cases ef : c.froz with
    | none => rw [show bnd (match Rv.c c with | Rv.d d => pur d | Rv.c c => PL.opt c.froz) k ρ1 = bnd (PL.opt c.froz) k ρ1 from rfl, ef] at h2; cases h2
    | some d =>
      rw [show bnd (match Rv.c c with | Rv.d d => pur d | Rv.c c => PL.opt c.froz) k ρ1 = bnd (PL.opt c.froz) k ρ1 from rfl, ef] at h2
      exact .inr ⟨c, d, ρ1, h1, ef, h2⟩
abbrev WF : WX := fun _ _ _ _ => False
theorem wipe_wipe (σ : L2.St) (vs : List Nat) : L2.wipe (L2.wipe σ vs) vs = L2.wipe σ vs := by
  refine List.ext_getElem? fun i => ?_
  rw [wipe_get, wipe_get, wipe_length]
  by_cases h : i ∈ vs ∧ i < σ.length
  · rw [if_pos h, if_pos h]
  · rw [if_neg h, if_neg h]
theorem w_lc {vs : List Nat} {it : M (List D)} {tg : Tg} {c : M Bool} {e : Ev} {Q : VK} (hv : ∀ i ∈ tg.sl, i ∈ vs) (h : TP K ct W (evLc vs it tg c e) σ H Q) : tLc (TIt K ct W it) (TGt K ct tg) (TB K ct WF c) (TP K ct WF e) vs σ H Q := by
  obtain ⟨fr, F, ρ, S, h⟩ := h
  refine Tat.bnd h S fun F1 H1 ρ1 J xs s1 S1 r1 h => ?_
  intro D hD
  obtain ⟨r0, ρ0, e0, q0⟩ := h
  unfold lcRun at e0
  split at e0
  · rename_i ok
    have np := okOwn_np S1 ok
    cases ego : lcGo vs tg c e xs [] (wipeR ρ1 vs) with
    | none => rw [ego] at e0; cases e0
    | some y =>
      obtain ⟨ry, ρf⟩ := y
      rw [ego] at e0
      cases ry with
      | er c pl => cases e0
      | ok accf =>
        cases e0
        have dP := S1.np hD
        have dp : ∀ j, fr.pa j ≠ some D := fun j => (S1.fresh (o := .lst []) (c := .lst []) hD ⟨[], upd_same, .nil⟩).2.2.1 j
        refine ⟨fun i m H => m = xs.length - i ∧ i ≤ xs.length ∧ ∃ F2 ρ2 vacc acc, Same F1 F2 ∧ Rps K ct.ad F2 vacc acc ∧ Rel K ct (fr.prot D (.lst vacc)) F2 H (L2.wipe σ vs) ρ2 ∧ lcGo vs tg c e (xs.drop i) acc ρ2 = some (.ok accf, ρf),
          ⟨xs.length, by simp, Nat.zero_le _, F1, _, [], [], Same.refl _, .nil, (S1.wipe np).prot hD, ego⟩, ?_⟩
        rintro i m H2 ⟨rfl, hi, F2, ρ2, vacc, acc, s2, ra, S2, eg⟩
        have it := r1 F2 H2 s2 S2.fh i
        by_cases lt : i < xs.length
        · refine .inr ?_
          obtain ⟨go, yl⟩ := it.1 xs[i] (List.getElem?_eq_getElem lt)
          refine ⟨go, fun H' => ∃ F2 ρ2 vacc acc, Same F1 F2 ∧ Rps K ct.ad F2 vacc acc ∧ Rel K ct (fr.prot D (.lst vacc)) F2 H' (L2.wipe σ vs) ρ2 ∧ lcGo vs tg c e (xs.drop (i + 1)) acc ρ2 = some (.ok accf, ρf), fun H' z => ⟨xs.length - (i + 1), by omega, rfl, lt, z⟩, fun v H3 y => ?_⟩
          obtain ⟨F3, al, rp⟩ := yl v H3 y
          have S3 := S2.al al
          rw [List.drop_eq_getElem_cons lt] at eg
          unfold lcGo at eg
          cases ea : asgT tg xs[i] ρ2 with
          | none => rw [ea] at eg; cases eg
          | some x =>
            obtain ⟨rx, ρ4⟩ := x
            rw [ea] at eg
            cases rx with
            | er c pl => cases eg
            | ok fl =>
              cases fl with
              | nx =>
                refine ⟨fr.prot D (.lst vacc), F3, ρ2, xs[i], ρ4, S3, rp, ea, fun σ4 F4 H4 s4 o4 S4 => ⟨?_, ?_⟩⟩
                · rw [(o4.sub hv).wipe, wipe_wipe]
                · have wk : L2.wipe σ4 vs = L2.wipe σ vs := by rw [(o4.sub hv).wipe, wipe_wipe]
                  have back : ∀ {F5 H5 ρ5 vacc' acc'}, Same F4 F5 → Rps K ct.ad F5 vacc' acc' → Rel K ct (fr.prot D (.lst vacc')) F5 H5 σ4 ρ5 → lcGo vs tg c e (xs.drop (i + 1)) acc' (wipeR ρ5 vs) = some (.ok accf, ρf) →
                      ∃ F2 ρ2 vacc acc, Same F1 F2 ∧ Rps K ct.ad F2 vacc acc ∧ Rel K ct (fr.prot D (.lst vacc)) F2 H5 (L2.wipe σ vs) ρ2 ∧ lcGo vs tg c e (xs.drop (i + 1)) acc ρ2 = some (.ok accf, ρf) := fun {F5 H5 ρ5 vacc' acc'} s5 ra5 S5 e5 =>
                    ⟨F5, _, vacc', acc', ((s2.trans al.1).trans s4).trans s5, ra5, by rw [← wk]; exact S5.wipe np, e5⟩
                  have eg : bnd (noEr c) (fun b => if b then bnd (dat (noEr e)) (fun d => if acc.length < 16777216 then (fun ρ => lcGo vs tg c e (xs.drop (i + 1)) (acc ++ [d]) (wipeR ρ vs)) else fai) else fun ρ => lcGo vs tg c e (xs.drop (i + 1)) acc (wipeR ρ vs)) ρ4 = some (.ok accf, ρf) := eg
                  obtain ⟨b, ρ5, ec, eg⟩ := bndI eg
                  refine ⟨fr.prot D (.lst vacc), F4, ρ4, S4, .ok b, ρ5, ec, fun v F5 H5 s5 S5 rb => ?_⟩
                  have rb : v = b := rb
                  subst rb
                  cases v with
                  | false =>
                    show if false = true then _ else _
                    (rw [if_neg Bool.false_ne_true])
                    exact back s5 (ra.mono (((al.1).trans s4).trans s5)) S5 eg
                  | true =>
                    show if true = true then _ else _
                    rw [if_pos rfl]
                    have fin : ∀ {d ρ6}, (if acc.length < 16777216 then (fun ρ => lcGo vs tg c e (xs.drop (i + 1)) (acc ++ [d]) (wipeR ρ vs)) else fai) ρ6 = some (Ex.ok accf, ρf) → acc.length < 16777216 ∧ lcGo vs tg c e (xs.drop (i + 1)) (acc ++ [d]) (wipeR ρ6 vs) = some (.ok accf, ρf) := fun {d ρ6} z => by
                      split at z
                      · rename_i w; exact ⟨w, z⟩
                      · cases z
                    rcases datI eg with ⟨d, ρ6, ee, eg⟩ | ⟨cc, d, ρ6, ee, ef, eg⟩
                    · obtain ⟨al6, eg⟩ := fin eg
                      refine ⟨fr.prot D (.lst vacc), F5, ρ5, S5, _, ρ6, ee, fun v F6 H6 s6 S6 rv => ?_⟩
                      have rv : Rp K ct.ad F6 v d := rv
                      exact ⟨vacc, S6.protD.2, by rw [ra.len]; exact al6, back (s5.trans s6) ((ra.mono (((al.1.trans s4).trans s5).trans s6)).snoc rv) S6.reprot eg⟩
                    · obtain ⟨al6, eg⟩ := fin eg
                      refine ⟨fr.prot D (.lst vacc), F5, ρ5, S5, _, ρ6, ee, fun v F6 H6 s6 S6 rv => ?_⟩
                      obtain ⟨p, ev, fp⟩ := rv
                      subst ev
                      obtain ⟨F7, s7, rp7, S7⟩ := fp.frz S6 ef
                      exact ⟨vacc, S7.protD.2, by rw [ra.len]; exact al6, back ((s5.trans s6).trans s7) ((ra.mono ((((al.1.trans s4).trans s5).trans s6).trans s7)).snoc rp7) S7.reprot eg⟩
              | _ => cases eg
        · refine .inl ⟨it.2 (by omega), ?_⟩
          rw [List.drop_eq_nil_of_le (by omega)] at eg
          have eg : pur acc ρ2 = some (.ok accf, ρf) := eg
          cases eg
          obtain ⟨S5, fr5⟩ := S2.unprot dP dp (c := .lst accf) ⟨vacc, S2.protD.2, ra⟩
          have S6 := S1.rest s2 ok S5
          refine q0 _ F2 H2 s2 S6 ⟨D, rfl, fr5.1, fr5.2.1, fr5.2.2.1, fr5.2.2.2.1, fun j k c' z1 z2 => ?_⟩
          obtain ⟨p', o', g1, g2⟩ := S6.cell_at z1
          rw [g1] at z2
          cases z2
          rw [restR_get] at z1
          split at z1
          · rename_i w
            have h1 := List.all_eq_true.mp ok j w.1
            cases q : ρ1[j]? with
            | none => rw [q] at z1; cases z1
            | some x =>
              rw [q] at z1 h1
              have z1 : some x = some (Sl.cel k c') := z1
              cases z1
              cases h1
          · rename_i w
            have m : j ∉ vs := fun m => w ⟨m, (List.getElem?_eq_some_iff.mp z1).1⟩
            refine fr5.2.2.2.2 j k c' z1 ?_
            rw [wipe_get, if_neg (fun z => m z.1)]
            exact g1
  · cases e0
end PL
end
section
namespace PL
open PySem PySem.Spec PyProof.Rows L2
variable {K : PySem.W.Frag} {ad : Cl → Addr} {ct : CT}
variable {fr : Fr} {F F' H H' : Hp} {σ : L2.St} {ρ : List Sl} {W : WX}
section
variable {X : Cx}
theorem pts_n : PTs X [] (TB K ct W (pur true)) := pts_nil.imp fun σ H Q h => by
  obtain ⟨fr, F, ρ, S, h⟩ := h
  exact Tat.ok (a := true) h true F H (Same.refl _) S rfl
theorem pts_1 {c : Expr} {t : M Bool} (h : PT X c (TB K ct W t)) : PTs X [c] (TB K ct W t) := pts_one h
theorem pp_lc {elt tg iter : Expr} {ifs : List Expr} {scope : Scope} {own : List (Str × Nat)} {pos : Pos} {it : M (List D)} {t : Tg} {c : M Bool} {e : Ev} (hc : X.calm = true) (hN : X.N.Nodup) (hi : PI X tg iter (TIt K ct W it)) (ok : BlkOk X.N X.env.scope scope own)
    (hg : ∀ (s : Shared) (H : Hp) (C : Addr) (cl : List (Str × Addr)) (fp : List Addr), PG (X.blk s H scope (compEnvC scope cl C X.env) fp) tg (TGt K ct t)) (ht : ∀ (s : Shared) (H : Hp) (C : Addr) (cl : List (Str × Addr)) (fp : List Addr), PTs (X.blk s H scope (compEnvC scope cl C X.env) fp) ifs (TB K ct WF c))
    (he : ∀ (s : Shared) (H : Hp) (C : Addr) (cl : List (Str × Addr)) (fp : List Addr), PE (X.blk s H scope (compEnvC scope cl C X.env) fp) elt (TP K ct WF e)) (hv : ∀ i ∈ t.sl, i ∈ own.map (·.2) := by decide) (hs : ∀ x, foldedSetIterable iter X.env x = pure x := by intro _; rfl) :
    PE X (.ListComp elt [⟨tg, iter, ifs, 0⟩] scope pos) (TP K ct W (evLc (own.map (·.2)) it t c e)) := (pe_lc hc hN hi ok hg ht he hs).imp fun σ H Q => w_lc hv
theorem s_setLc {i : Nat} {y : Str} {py : Pos} {elt tg iter : Expr} {ifs : List Expr} {scope : Scope} {own : List (Str × Nat)} {pos spos : Pos} {it : M (List D)} {t : Tg} {c : M Bool} {e : Ev} (hc : X.calm = true) (hN : X.N.Nodup) (hy : X.N[i]? = some y) (hyl : X.env.scope.names.lookup y = some .local)
    (hsw : swapsWith (.ListComp elt [⟨tg, iter, ifs, 0⟩] scope pos) (some (.Name y py)) spos.line X.env = pure true) (hi : PI X tg iter (TIt K ct W it)) (ok : BlkOk X.N X.env.scope scope own)
    (hg : ∀ (s : Shared) (H : Hp) (C : Addr) (cl : List (Str × Addr)) (fp : List Addr), PG (X.blk s H scope (compEnvC scope cl C X.env) fp) tg (TGt K ct t)) (ht : ∀ (s : Shared) (H : Hp) (C : Addr) (cl : List (Str × Addr)) (fp : List Addr), PTs (X.blk s H scope (compEnvC scope cl C X.env) fp) ifs (TB K ct WF c))
    (he : ∀ (s : Shared) (H : Hp) (C : Addr) (cl : List (Str × Addr)) (fp : List Addr), PE (X.blk s H scope (compEnvC scope cl C X.env) fp) elt (TP K ct WF e)) (hv : ∀ i ∈ t.sl, i ∈ own.map (·.2) := by decide) (hs : ∀ x, foldedSetIterable iter X.env x = pure x := by intro _; rfl) :
    PS X (.Assign [.Name y py] (.ListComp elt [⟨tg, iter, ifs, 0⟩] scope pos) spos) (TSt K ct W (evAsg i (evLc (own.map (·.2)) it t c e))) := (ps_setLc hc hN hy hyl hsw hi ok hg ht he hs).imp fun D σ H ⟨fr, F, ρ, S, h⟩ => by
  show tLc _ _ _ _ _ σ H _
  refine w_lc hv ?_
  exact h.dat S fun F1 H1 ρ1 v d s1 S1 r1 h => h.setD S1 r1
theorem s_setLcC {i : Nat} {y : Str} {py : Pos} {elt tg iter : Expr} {ifs : List Expr} {scope : Scope} {own : List (Str × Nat)} {pos spos : Pos} {it : M (List D)} {t : Tg} {c : M Bool} {e : Ev} (hc : X.calm = true) (hN : X.N.Nodup) (hy : X.N[i]? = some y) (hyl : X.env.scope.names.lookup y = some .local)
    (hsw : swapsWith (.ListComp elt [⟨tg, iter, ifs, 0⟩] scope pos) (some (.Name y py)) spos.line X.env = pure true) (hi : PI X tg iter (TIt K ct W it)) (ok : BlkOk X.N X.env.scope scope own)
    (hg : ∀ (s : Shared) (H : Hp) (C : Addr) (cl : List (Str × Addr)) (fp : List Addr), PG (X.blk s H scope (compEnvC scope cl C X.env) fp) tg (TGt K ct t)) (ht : ∀ (s : Shared) (H : Hp) (C : Addr) (cl : List (Str × Addr)) (fp : List Addr), PTs (X.blk s H scope (compEnvC scope cl C X.env) fp) ifs (TB K ct WF c))
    (he : ∀ (s : Shared) (H : Hp) (C : Addr) (cl : List (Str × Addr)) (fp : List Addr), PE (X.blk s H scope (compEnvC scope cl C X.env) fp) elt (TP K ct WF e)) (hv : ∀ i ∈ t.sl, i ∈ own.map (·.2) := by decide) (hs : ∀ x, foldedSetIterable iter X.env x = pure x := by intro _; rfl) :
    PS X (.Assign [.Name y py] (.ListComp elt [⟨tg, iter, ifs, 0⟩] scope pos) spos) (TSt K ct W (evAsgC i (evLc (own.map (·.2)) it t c e))) := (ps_setLc hc hN hy hyl hsw hi ok hg ht he hs).imp fun D σ H ⟨fr, F, ρ, S, h⟩ => by
  show tLc _ _ _ _ _ σ H _
  refine w_lc hv ?_
  refine Sat.bnd K ct h S (fun _ _ _ _ z => z) fun F1 H1 ρ1 v r s1 S1 r1 h => ?_
  cases r with
  | d d => obtain ⟨_, _, e, _⟩ := h; cases e
  | c c => obtain ⟨p, ev, fp⟩ := r1; subst ev; exact Sat.setC h S1 fp
end
/-! ### new objects -/
theorem Rel.push (S : Rel K ct fr F H σ ρ) {p : Addr} {c : CC} (f : Fresh K ct.ad fr F H σ ρ p c) : Rel K ct fr F H (σ ++ [some (.ref p)]) (ρ ++ [.cel .own c]) := by
  obtain ⟨f1, f2, f3, f4, f5⟩ := f
  have l := S.len
  have old : ∀ {i : Nat} {s : Sl}, (ρ ++ [Sl.cel .own c])[i]? = some s → (i < ρ.length ∧ ρ[i]? = some s) ∨ (i = ρ.length ∧ s = .cel .own c) := fun {i s} e => by
    by_cases q : i < ρ.length
    · rw [List.getElem?_append_left q] at e; exact .inl ⟨q, e⟩
    · rw [List.getElem?_append_right (by omega)] at e
      have : i - ρ.length = 0 := by
        cases w : i - ρ.length with
        | zero => rfl
        | succ n => rw [w] at e; simp at e
      rw [this] at e
      cases e
      exact .inr ⟨by omega, rfl⟩
  have get : ∀ {i : Nat}, i < ρ.length → (σ ++ [some (V.ref p)])[i]? = σ[i]? := fun {i} q => List.getElem?_append_left (by omega)
  have last : (σ ++ [some (V.ref p)])[ρ.length]? = some (some (V.ref p)) := by rw [← l]; simp
  refine ⟨by simp [l], S.fh, fun i s e => ?_, fun i j k c1 k' c2 q e1 e2 h1 h2 => ?_, S.keep, S.fro, fun i q e => ?_⟩
  · rcases old e with ⟨q, e⟩ | ⟨rfl, rfl⟩
    · obtain ⟨o, g1, g2⟩ := S.slot i s e
      exact ⟨o, by rw [get q]; exact g1, g2⟩
    · exact ⟨_, last, p, rfl, f1, f2, (fun z => by cases z), (fun _ => f3), f4⟩
  · rcases old e1 with ⟨q1, e1⟩ | ⟨rfl, z1⟩
    · rw [get q1] at h1
      rcases old e2 with ⟨q2, e2⟩ | ⟨rfl, z2⟩
      · rw [get q2] at h2
        exact S.dis i j _ _ _ _ q e1 e2 h1 h2
      · rw [last] at h2
        cases h2
        exact absurd h1 (f5 _ _ _ e1)
    · rw [last] at h1
      cases h1
      rcases old e2 with ⟨q2, e2⟩ | ⟨rfl, z2⟩
      · rw [get q2] at h2
        exact absurd h2 (f5 _ _ _ e2)
      · rfl
  · obtain ⟨k, c1, h1, h2⟩ := S.pcs i q e
    exact ⟨k, c1, by rw [List.getElem?_append_left (List.getElem?_eq_some_iff.mp h1).1]; exact h1, h2⟩
theorem Rel.pop {o : Option V} (S : Rel K ct fr F H (σ ++ [o]) ρ) (np : fr.pa σ.length = none) : Rel K ct fr F H σ (ρ.take σ.length) := by
  have l := S.len
  rw [List.length_append] at l
  have l : σ.length + 1 = ρ.length := l
  have get : ∀ {i : Nat} {s : Sl}, (ρ.take σ.length)[i]? = some s → i < σ.length ∧ ρ[i]? = some s := fun {i s} e => by
    rw [List.getElem?_take] at e
    split at e
    · rename_i q; exact ⟨q, e⟩
    · cases e
  have gs : ∀ {i : Nat}, i < σ.length → (σ ++ [o])[i]? = σ[i]? := fun {i} q => List.getElem?_append_left q
  refine ⟨by rw [List.length_take]; omega, S.fh, fun i s e => ?_, fun i j k c1 k' c2 q e1 e2 h1 h2 => ?_, S.keep, S.fro, fun i q e => ?_⟩
  · obtain ⟨q, e⟩ := get e
    obtain ⟨u, g1, g2⟩ := S.slot i s e
    exact ⟨u, by rw [← gs q]; exact g1, g2⟩
  · obtain ⟨q1, e1⟩ := get e1
    obtain ⟨q2, e2⟩ := get e2
    exact S.dis i j _ _ _ _ q e1 e2 (by rw [gs q1]; exact h1) (by rw [gs q2]; exact h2)
  · obtain ⟨k, c1, h1, h2⟩ := S.pcs i q e
    have il := (List.getElem?_eq_some_iff.mp h1).1
    have : i ≠ σ.length := fun z => by rw [z, np] at e; cases e
    exact ⟨k, c1, by rw [List.getElem?_take, if_pos (by omega)]; exact h1, h2⟩
theorem Rel.popC {p : Addr} {c : CC} (S : Rel K ct fr F H (σ ++ [some (.ref p)]) ρ) (np : fr.pa σ.length = none) (e : ρ[σ.length]? = some (.cel .own c)) : Fresh K ct.ad fr F H σ (ρ.take σ.length) p c := by
  have last : (σ ++ [some (V.ref p)])[σ.length]? = some (some (V.ref p)) := by simp
  obtain ⟨u, g1, p', a1, a2, a3, a4, a5, a6⟩ := S.slot _ _ e
  rw [last] at g1
  subst a1
  cases g1
  refine ⟨a2, a3, a5 rfl, a6, fun i k c' e1 e2 => ?_⟩
  rw [List.getElem?_take] at e1
  split at e1
  · rename_i q
    have := S.dis i σ.length _ _ _ _ p e1 e (by rw [List.getElem?_append_left q]; exact e2) last
    omega
  · cases e1
/-- C(..): a new object, then its __init__ -/
def mkG (n : Nat) (G : Fn) (c : Cl) (ar : List Ar) : Ev := fun ρ => match callG n G (.c ρ.length :: ar) (ρ ++ [.cel .own (.obj c [])]) with
  | some (.ok (.d .non), ρ1) => (match ρ1[ρ.length]? with | some (.cel .own c') => some (.ok (.c c'), ρ1.take ρ.length) | _ => none)
  | some (.er c pl, ρ1) => some (.er c pl, ρ1.take ρ.length)
  | _ => none
def evMk (n : Nat) (G : Fn) (c : Cl) (as : List AE) (ds : List D := []) : Ev := bnd (evAs as) fun ar => mkG n G c (ar ++ ds.map .d)
def evMk0 (n : Nat) (G : Fn) (c : Cl) (as : List AE) (ds : List D := []) : Ev := bnd (evAs as) fun ar => noEr (mkG n G c (ar ++ ds.map .d))
theorem RAs.push {F : Hp} {σ : L2.St} {o : Option V} : ∀ {vs : List V} {as : List Ar}, RAs K ct.ad F σ vs as → RAs K ct.ad F (σ ++ [o]) vs as
  | _, _, .nil => .nil
  | _, .d _ :: _, .cons h r => .cons h (RAs.push r)
  | _, .c j :: _, .cons h r => .cons (by
      have h : σ[j]? = some (some _) := h
      show (σ ++ [o])[j]? = _
      rw [List.getElem?_append_left (List.getElem?_eq_some_iff.mp h).1]
      exact h) (RAs.push r)
theorem Tat.mk {n : Nat} {G : Fn} {c : Cl} {vs : List V} {ar : List Ar} {Q : VK} {E : XK} (h : Tat K ct (RV K ct.ad) W fr F ρ (mkG n G c ar) σ Q) (S : Rel K ct fr F H σ ρ) (r : RAs K ct.ad F σ vs ar) (hE : ∀ cls d H', W cls d σ H' → E cls d H')
    (x dx : Addr) (hx : H x = none) (hdx : H dx = none) (ne : dx ≠ x) : spP K ct.ad n G (.ref x :: vs) (upd (upd H dx (.own x)) x (.ins (ct.ad c) dx [])) (fun v H2 => v = .non ∧ Q (.ref x) H2) E := by
  have S1 := S.newC (o := .own x) hdx
  have hx1 : upd H dx (.own x) x = none := by rw [upd_ne ne.symm]; exact hx
  have S2 := S1.newC (o := .ins (ct.ad c) dx []) hx1
  have f2 := S1.fresh (o := .ins (ct.ad c) dx []) (c := .obj c []) hx1 ⟨dx, [], upd_same, .nil⟩
  have S3 := S2.push f2
  have l := S.len
  have np : fr.pa σ.length = none := by
    cases z : fr.pa σ.length with
    | none => rfl
    | some q =>
      obtain ⟨k1, c1, h1, h2⟩ := S.pcs _ q z
      have := (List.getElem?_eq_some_iff.mp h1).1
      omega
  have last : (σ ++ [some (V.ref x)])[ρ.length]? = some (some (V.ref x)) := by rw [← l]; simp
  refine Tat.call (W := fun cls d _ H' => W cls d σ H') (ar := .c ρ.length :: ar) (fr := fr) (F := F) (ρ := ρ ++ [.cel .own (.obj c [])]) (σ := σ ++ [some (.ref x)]) ?_ S3 (RAs.cons (show RA1 K ct.ad F (σ ++ [some (V.ref x)]) (.ref x) (.c ρ.length) from last) (RAs.push (o := some (V.ref x)) r)) hE
  obtain ⟨r0, ρ0, e, q⟩ := h
  unfold mkG at e
  cases ec : callG n G (.c ρ.length :: ar) (ρ ++ [.cel .own (.obj c [])]) with
  | none => rw [ec] at e; cases e
  | some y =>
    obtain ⟨ry, ρ1⟩ := y
    rw [ec] at e
    refine ⟨ry, ρ1, ec, ?_⟩
    cases ry with
    | er c' pl =>
      cases e
      intro d F' H' s' S' pr
      rw [← l] at q
      exact q d F' H' s' (S'.pop np) pr
    | ok rv =>
      cases rv with
      | c c' => cases e
      | d d =>
        cases d with
        | non =>
          intro v F' H' s' S' rr
          have rr : Rp K ct.ad F' v .non := rr
          cases rr
          refine ⟨rfl, ?_⟩
          have e : (match ρ1[ρ.length]? with | some (.cel .own c') => some (Ex.ok (Rv.c c'), ρ1.take ρ.length) | _ => none) = some (r0, ρ0) := e
          split at e
          · rename_i c' e1
            cases e
            rw [← l] at q e1
            exact q _ F' H' s' (S'.pop np) ⟨x, rfl, S'.popC np e1⟩
          · cases e
        | _ => cases e
section
variable {X : Cx} {CX : CXT} {k : Nat} {f : Addr} {fd : FuncData} {ps : List Str} {x : Str} {p pos : Pos} {e : Expr} {es : List Expr} {n : Nat} {G : Fn} {as : List AE} {dvs : List V} {dds : List D} {ds : List Value}
theorem pp_make (c : Cl) (M : Mk X.K (ct.ad c) f) (Fn : FnOk X.prog X.w X.K X.mg X.base CX k f fd ps (spP K ct.ad n G)) (hr : Room (k + 1) X.A) (hg : Gl X x) (hm : X.mg x = some (.ref (ct.ad c))) (hb : Binds X.K fd ps ds) (hd : Vals dvs ds) (hx : Passes CX X E0)
    (ha : PA X (e :: es) (TAr K ct W (evAs as))) (hdf : Dfs dvs dds) (hdb : (x == ("__debug__" : Str)) = false := by decide) (he : starEach (e :: es) X.env = (false, eval e X.env) :: starEach es X.env := by rfl) (hpl : (backTo pos (starEach es X.env)).any (·.1) = false := by rfl) :
    PE X (.Call (.Name x p) (e :: es) [] pos) (TP K ct W (evMk0 n G c as dds)) := (pe_make M Fn hr hg hm hb hd hx ha hdb he hpl).imp fun σ H Q h => by
  obtain ⟨fr, F, ρ, S, h⟩ := h
  refine Tat.bnd h S fun F1 H1 ρ1 vs ar s1 S1 r1 h => ?_
  intro x dx h1 h2 h3
  exact Tat.mk (W := WF) h.noEr S1 (RAs.dfs hdf r1) (fun _ _ _ z => z) x dx h1 h2 h3
theorem pp_makeS (c : Cl) (M : Mk X.K (ct.ad c) f) (Fn : FnOk X.prog X.w X.K X.mg X.base (L2.CX X.prog X.w) k f fd ps (spP K ct.ad n G)) (tk : Takes X W) (hr : Room (k + 1) X.A) (hg : Gl X x) (hm : X.mg x = some (.ref (ct.ad c))) (hb : Binds X.K fd ps ds) (hd : Vals dvs ds)
    (ha : PA X (e :: es) (TAr K ct W (evAs as))) (hdf : Dfs dvs dds) (hdb : (x == ("__debug__" : Str)) = false := by decide) (he : starEach (e :: es) X.env = (false, eval e X.env) :: starEach es X.env := by rfl) (hpl : (backTo pos (starEach es X.env)).any (·.1) = false := by rfl) :
    PE X (.Call (.Name x p) (e :: es) [] pos) (TP K ct W (evMk n G c as dds)) := (OW.pe_makeS M Fn hr hg hm hb hd (fun σ => passAt tk σ) ha hdb he hpl).imp fun σ H Q h => by
  obtain ⟨fr, F, ρ, S, h⟩ := h
  refine Tat.bnd h S fun F1 H1 ρ1 vs ar s1 S1 r1 h => ?_
  intro x dx h1 h2 h3
  exact Tat.mk h S1 (RAs.dfs hdf r1) (fun _ _ _ z => z) x dx h1 h2 h3
end
/-! ### lists that change -/
def modL (j : Nat) (f : List D → Option (D × List D)) : Ev := fun ρ => match ρ[j]? with
  | some (.cel k (.lst xs)) => (match f xs with | some (r, ys) => some (.ok (.d r), ρ.set j (.cel k (.lst ys))) | none => none)
  | _ => none
def isL (j : Nat) : Ev := fun ρ => match ρ[j]? with | some (.cel _ (.lst _)) => some (.ok (.d .non), ρ) | _ => none
/-- o.m(..) of a list in slot j -/
def evBmL (j : Nat) (f : List D → List D → Option (D × List D)) (es : List DE) : Ev := bnd (isL j) fun _ => bnd (evDs es) fun ds => modL j fun xs => f xs ds
theorem Tat.isL {δ γ : Type} {R' : Rel3 δ γ} {j : Nat} {k : Rv → M γ} {Q : δ → Hp → Prop} (h : Tat K ct R' W fr F ρ (PL.bnd (PL.isL j) k) σ Q) (S : Rel K ct fr F H σ ρ) :
    ∃ p vs, σ[j]? = some (some (.ref p)) ∧ H p = some (.lst vs) ∧ Tat K ct R' W fr F ρ (k (.d .non)) σ Q := by
  obtain ⟨r, ρ', e, q⟩ := h
  unfold PL.bnd PL.isL at e
  split at e
  · rename_i a ρ1 e1
    split at e1
    · rename_i k0 xs e2
      cases e1
      obtain ⟨o, g1, p, a1, a2, a3, a4, a5, vs, a6, a7⟩ := S.slot j _ e2
      subst a1
      exact ⟨p, vs, g1, a6, r, ρ', e, q⟩
    · cases e1
  · rename_i c pl ρ1 e1
    split at e1 <;> cases e1
  · cases e
variable (K ad) in
/-- what a list's method does -/
def OL (r : V → List V → Hp → VK → Prop) (f : List D → List D → Option (D × List D)) : Prop := ∀ {F H : Hp} {p : Addr} {vs us : List V} {xs ds ys : List D} {z : D} {Q : VK}, Same F H → H p = some (.lst vs) → Rps K ad F vs xs → Rps K ad F us ds → f xs ds = some (z, ys) →
  (∀ v vs', Rp K ad F v z → Rps K ad F vs' ys → Q v (upd H p (.lst vs'))) → r (.ref p) us H Q
theorem w_bmL {j : Nat} {r : V → List V → Hp → VK → Prop} {f : List D → List D → Option (D × List D)} {es : List DE} {Q : VK} (O : OL K ct.ad r f) (h : TP K ct W (evBmL j f es) σ H Q) : tBM K "list" r (tVar j) (TD K ct W (evDs es)) σ H Q := by
  obtain ⟨fr, F, ρ, S, h⟩ := h
  obtain ⟨p, vs, h1, h2, h⟩ := Tat.isL h S
  refine ⟨_, h1, .inl ⟨rfl, vs, SqL.of h2⟩, ?_⟩
  refine Tat.bnd h S fun F1 H1 ρ1 us ds s1 S1 r1 h => ?_
  obtain ⟨r0, ρ', e, q⟩ := h
  unfold modL at e
  split at e
  · rename_i k xs e2
    obtain ⟨o, g1, p', a1, a2, a3, a4, a5, vs', a6, a7⟩ := S1.slot j _ e2
    rw [h1] at g1
    subst a1
    cases g1
    split at e
    · rename_i z ys ef
      cases e
      exact O S1.fh a6 a7 r1 ef fun v vs2 rv rvs => q v F1 _ (Same.refl _) (S1.updC e2 h1 rfl ⟨vs2, upd_same, rvs⟩) rv
    · cases e
  · cases e
def fApp : List D → List D → Option (D × List D) | xs, [d] => if xs.length < 16777216 then some (.non, xs ++ [d]) else none | _, _ => none
def fIns : List D → List D → Option (D × List D) | xs, [.int i, d] => if xs.length < 16777216 ∧ 0 ≤ i ∧ i < 2 ^ 63 then some (.non, xs.take i.toNat ++ [d] ++ xs.drop i.toNat) else none | _, _ => none
def fExt : List D → List D → Option (D × List D) | xs, [.lst ys] => if xs.length + ys.length ≤ 16777216 then some (.non, xs ++ ys) else none | _, _ => none
def fPopAt : List D → List D → Option (D × List D) | xs, [.int i] => if -(2 ^ 63) ≤ i ∧ i < 2 ^ 63 then (seqIndex? i xs.length).bind fun k => (xs[k]?).map fun d => (d, xs.eraseIdx k) else none | _, _ => none
theorem ol_app : OL K ct.ad rAppend fApp := by
  intro F H p vs us xs ds ys z Q s h1 h2 h3 e q
  cases h3 with
  | nil => cases e
  | @cons u d us ds r rs =>
    cases rs with
    | cons _ _ => cases e
    | nil =>
      have e : (if xs.length < 16777216 then some (D.non, xs ++ [d]) else none) = some (z, ys) := e
      split at e
      · rename_i l
        cases e
        exact ⟨p, vs, u, rfl, rfl, h1, by rw [h2.len]; exact l, q _ _ .non (h2.snoc r)⟩
      · cases e
theorem ol_ins : OL K ct.ad OW.wIns fIns := by
  intro F H p vs us xs ds ys z Q s h1 h2 h3 e q
  cases h3 with
  | nil => cases e
  | @cons u d us ds r rs =>
    cases rs with
    | nil => cases d <;> cases e
    | @cons u2 d2 us2 ds2 r2 rs2 =>
      cases rs2 with
      | cons _ _ => cases d <;> cases e
      | nil =>
        cases d <;> try cases e
        rename_i i
        cases r
        have e : (if xs.length < 16777216 ∧ 0 ≤ i ∧ i < 2 ^ 63 then some (D.non, xs.take i.toNat ++ [d2] ++ xs.drop i.toNat) else none) = some (z, ys) := e
        split at e
        · rename_i l
          cases e
          exact ⟨p, vs, i, u2, rfl, rfl, h1, by rw [h2.len]; exact l.1, l.2.1, l.2.2, q _ _ .non (((h2.take _).snoc r2).app (h2.drop _))⟩
        · cases e
theorem ol_ext : OL K ct.ad rExtend fExt := by
  intro F H p vs us xs ds ys z Q s h1 h2 h3 e q
  cases h3 with
  | nil => cases e
  | @cons u d us ds r rs =>
    cases rs with
    | cons _ _ => cases d <;> cases e
    | nil =>
      cases d <;> try cases e
      rename_i zs
      cases r with
      | @lst b ws _ hb rb =>
        have e : (if xs.length + zs.length ≤ 16777216 then some (D.non, xs ++ zs) else none) = some (z, ys) := e
        split at e
        · rename_i l
          cases e
          exact ⟨p, b, vs, ws, rfl, rfl, h1, s _ _ hb, by rw [h2.len, rb.len]; exact l, q _ _ .non (h2.app rb)⟩
        · cases e
theorem Rps.erase {F : Hp} : ∀ {vs : List V} {ds : List D} (n : Nat), Rps K ct.ad F vs ds → Rps K ct.ad F (vs.eraseIdx n) (ds.eraseIdx n)
  | _, _, _, .nil => .nil
  | _, _, 0, .cons _ t => t
  | _, _, n + 1, .cons r t => .cons r (Rps.erase n t)
theorem ol_popAt : OL K ct.ad rPopAt fPopAt := by
  intro F H p vs us xs ds ys z Q s h1 h2 h3 e q
  cases h3 with
  | nil => cases e
  | @cons u d us ds r rs =>
    cases rs with
    | cons _ _ => cases d <;> cases e
    | nil =>
      cases d <;> try cases e
      rename_i i
      cases r
      have e : (if -(2 ^ 63) ≤ i ∧ i < 2 ^ 63 then (seqIndex? i xs.length).bind fun k => (xs[k]?).map fun d => (d, xs.eraseIdx k) else none) = some (z, ys) := e
      split at e
      · rename_i l
        cases e1 : seqIndex? i xs.length with
        | none => rw [e1] at e; cases e
        | some k =>
          rw [e1] at e
          obtain ⟨d, e2, e3⟩ := map_some (show (xs[k]?).map (fun d => (d, xs.eraseIdx k)) = some (z, ys) from e)
          cases e3
          obtain ⟨v, g1, g2⟩ := h2.get e2
          exact ⟨p, vs, i, k, v, rfl, rfl, h1, l.1, l.2, by rw [h2.len]; exact e1, g1, q v _ g2 (h2.erase k)⟩
      · cases e
section
variable {X : Cx} {e : Expr} {es : List Expr} {r : List DE} {cpos apos p : Pos} {x : Str}
abbrev FewW (X : Cx) (q : Pos) (ws : List Expr) : Prop := ((backTo q (starEach ws X.env)).all (fun y => !y.1) && (backToKw q (keywordEach [] X.env)).all (fun y => y.1.isSome)
  && decide (ws.length + ([] : List Keyword).length + (if ([] : List Keyword).isEmpty then 0 else 1) < 30)) = true
theorem pp_bmL {id : String} {name : Str} {rr : V → List V → Hp → VK → Prop} {f : List D → List D → Option (D × List D)} (j : Nat) (eK : X.K = K) (O : OL K ct.ad rr f) (pa : PlainAttrs "list") (slot : Slot "list" name id) (hty : typeOf (.builtin id) = pure (.type "method_descriptor")) (hm : MtR X id rr) (ho : PE X (.Name x p) (tVar j)) (ha : PA X (e :: es) (TD K ct W (evDs r)))
    (hbase : attributeBase (.Name x p) name X.env (eval (.Name x p) X.env) = eval (.Name x p) X.env := by rfl)
    (hfew : FewW X cpos (e :: es) := by rfl) (hline : (apos.endLine == cpos.line) = true := by rfl)
    (hs : starEach (e :: es) X.env = (false, eval e X.env) :: starEach es X.env := by rfl) (hplain : (backTo cpos (starEach es X.env)).any (·.1) = false := by rfl) :
    PE X (.Call (.Attribute (.Name x p) name apos) (e :: es) [] cpos) (TP K ct W (evBmL j f r)) := by
  subst eK
  exact (pe_bm pa slot hty hm ho ha hbase hfew hline hs hplain).imp fun σ H Q => w_bmL O
end
/-- xs[i] = e, xs in slot j -/
def evSetI (j : Nat) (ie e : Ev) : M Fl := bnd (dat e) fun d => bnd (isL j) fun _ => bnd (dat ie) fun i => match i with
  | .int i => bnd (modL j fun xs => (ixN xs.length i).map fun n => (.non, xs.set n d)) fun _ => pur .nx
  | _ => fai
theorem Sat.isL {D : Ends} {j : Nat} {k : Rv → M Fl} (h : Sat K ct W D fr F ρ (PL.bnd (PL.isL j) k)) (S : Rel K ct fr F H σ ρ) :
    ∃ p vs, σ[j]? = some (some (.ref p)) ∧ H p = some (.lst vs) ∧ Sat K ct W D fr F ρ (k (.d .non)) := by
  obtain ⟨r, ρ', e, q⟩ := h
  unfold PL.bnd PL.isL at e
  split at e
  · rename_i a ρ1 e1
    split at e1
    · rename_i k0 xs e2
      cases e1
      obtain ⟨o, g1, p, a1, a2, a3, a4, a5, vs, a6, a7⟩ := S.slot j _ e2
      subst a1
      exact ⟨p, vs, g1, a6, r, ρ', e, q⟩
    · cases e1
  · rename_i c pl ρ1 e1
    split at e1 <;> cases e1
  · cases e
theorem w_setI {j : Nat} {ie e : Ev} {D : Ends} (h : TSt K ct W (evSetI j ie e) D σ H) : tAsg (TP K ct W e) (gSub (tVar j) (TP K ct W ie) rSetL) D σ H := by
  obtain ⟨fr, F, ρ, S, h⟩ := h
  refine h.dat S fun F1 H1 ρ1 v d s1 S1 r1 h => ?_
  obtain ⟨p, vs, h1, h2, h⟩ := Sat.isL h S1
  refine ⟨_, h1, ?_⟩
  refine h.dat S1 fun F2 H2 ρ2 u i s2 S2 r2 h => ?_
  cases i with
  | int i =>
    cases r2
    obtain ⟨r0, ρ', e, q⟩ := h
    have e : bnd (modL j fun xs => (ixN xs.length i).map fun n => (.non, xs.set n d)) (fun _ => pur Fl.nx) ρ2 = some (r0, ρ') := e
    unfold bnd modL at e
    cases e2 : ρ2[j]? with
    | none => rw [e2] at e; cases e
    | some x =>
      rw [e2] at e
      cases x with
      | cel k c =>
        cases c with
        | lst xs =>
          obtain ⟨o, g1, p', a1, a2, a3, a4, a5, vs', a6, a7⟩ := S2.slot j _ e2
          rw [h1] at g1
          subst a1
          cases g1
          dsimp only at e
          cases e3 : ixN xs.length i with
          | none => rw [e3] at e; cases e
          | some n =>
            rw [e3] at e
            cases e
            exact ⟨p, vs', i, n, rfl, rfl, a6, by rw [a7.len]; exact e3, q σ F2 _ (Same.refl _) (S2.updC e2 h1 rfl ⟨_, upd_same, a7.set (r1.mono s2) n⟩)⟩
        | _ => cases e
      | _ => cases e
  | _ => obtain ⟨_, _, e, _⟩ := h; cases e
theorem s_setI {X : Cx} {x : Str} {p pos pos' : Pos} {i e : Expr} {fi fe : Ev} (j : Nat) (ho : PE X (.Name x p) (tVar j)) (hi : PE X i (TP K ct W fi)) (he : PE X e (TP K ct W fe))
    (ha : ∀ z, assign (.Subscript (.Name x p) i pos) X.env z = (do
      let l ← holding [z] (eval (.Name x p) X.env); let n ← holding [z, l] (eval i X.env)
      standAt pos; holding [z, l, n] (setItem l n z); release [z, l, n] []) := by intro _; rfl)
    (hs : swapsWithSole [.Subscript (.Name x p) i pos] e pos'.line X.env = pure false := by rfl) (hw : swappedStores [.Subscript (.Name x p) i pos] e X.env = pure none := by rfl)
    (h1 : (assignEach [.Subscript (.Name x p) i pos] X.env).map (·.2) = [assign (.Subscript (.Name x p) i pos) X.env] := by rfl) : PS X (.Assign [.Subscript (.Name x p) i pos] e pos') (TSt K ct W (evSetI j fi fe)) := (ps_asg he (pg_sub ho hi set_list ha) hs hw h1).imp fun D σ H => w_setI
/-! ### fields of an object in the making -/
def putD (f : Str) (d : D) : List (Str × D) → List (Str × D)
  | [] => [(f, d)]
  | (g, x) :: r => if g = f then (g, d) :: r else (g, x) :: putD f d r
theorem put_zip {f : Str} {v : V} {d : D} (r : Rp K ct.ad F v d) : ∀ {kvs : List (Str × D)} {vs : List V}, Rps K ct.ad F vs (kvs.map (·.2)) → ∃ vs', putF f v ((kvs.map (·.1)).zip vs) = ((putD f d kvs).map (·.1)).zip vs' ∧ Rps K ct.ad F vs' ((putD f d kvs).map (·.2))
  | [], _, h => by cases h; exact ⟨[v], rfl, .cons r .nil⟩
  | (g, x) :: kvs, _, h => by
    cases h with
    | @cons u _ us _ hu hs =>
      obtain ⟨vs', e, rs⟩ := put_zip r hs
      by_cases q : g = f
      · refine ⟨v :: us, ?_, ?_⟩
        · simp [putD, putF, q]
        · simp only [putD, if_pos q, List.map_cons]; exact .cons r hs
      · refine ⟨u :: vs', ?_, ?_⟩
        · simp only [putD, putF, if_neg q, List.map_cons, List.zip_cons_cons]; rw [e]
        · simp only [putD, if_neg q, List.map_cons]; exact .cons hu rs
def evFldS (c : Cl) (j : Nat) (f : Str) (e : Ev) : M Fl := bnd (dat e) fun d => fun ρ => match ρ[j]? with
  | some (.cel k (.obj c' kvs)) => if c' = c ∧ kvs.length < 1000 then some (.ok .nx, ρ.set j (.cel k (.obj c' (putD f d kvs)))) else none
  | _ => none
theorem s_fld {X : Cx} {x f : Str} {p pos pos' : Pos} {e : Expr} {fe : Ev} (c : Cl) (j : Nat) (eK : X.K = K) (hc : Cls K (ct.ad c)) (hn : NoAttr K (ct.ad c) f) (ho : PE X (.Name x p) (tVar j)) (he : PE X e (TP K ct W fe))
    (hs : swapsWith e (some (.Attribute (.Name x p) f pos')) pos.line X.env = pure false := by rfl) : PS X (.Assign [.Attribute (.Name x p) f pos'] e pos) (TSt K ct W (evFldS c j f fe)) := by
  subst eK
  refine (ps_fld ho he hs).imp fun D σ H ⟨fr, F, ρ, S, h⟩ => ?_
  refine h.dat S fun F1 H1 ρ1 v d s1 S1 r1 h => ?_
  obtain ⟨r0, ρ', e, q⟩ := h
  have e9 : (match ρ1[j]? with | some (.cel k (.obj c' kvs)) => if c' = c ∧ kvs.length < 1000 then some (Ex.ok Fl.nx, ρ1.set j (.cel k (.obj c' (putD f d kvs)))) else none | _ => none) = some (r0, ρ') := e
  clear e
  split at e9
  · rename_i k c' kvs e2
    split at e9
    · rename_i w
      obtain ⟨rfl, w⟩ := w
      cases e9
      obtain ⟨o, g1, p', a1, a2, a3, a4, a5, dx, vs, a6, a7⟩ := S1.slot j _ e2
      subst a1
      obtain ⟨vs', e4, rs⟩ := put_zip (f := f) r1 a7
      refine ⟨_, g1, p', ct.ad c', dx, _, rfl, a6, hc, hn, ?_, ?_⟩
      · rw [List.length_zip, List.length_map]
        omega
      · rw [e4]
        exact q σ F1 _ (Same.refl _) (S1.updC e2 g1 rfl ⟨dx, vs', upd_same, rs⟩)
    · cases e9
  · cases e9
end PL
end
section
namespace PL
open PySem PySem.Spec PyProof.Rows L2
variable {K : PySem.W.Frag} {ad : Cl → Addr} {ct : CT}
variable {fr : Fr} {F F' H H' : Hp} {σ : L2.St} {ρ : List Sl} {W : WX}
/-! ### built-ins -/
def evB (g : List D → Option D) (es : List DE) : Ev := bnd (evDs es) fun ds => opt ((g ds).map Rv.d)
def evBc (g : List D → Option CC) (es : List DE) : Ev := bnd (evDs es) fun ds => opt ((g ds).map Rv.c)
variable (K ad) in
def OB (r : List V → Hp → VK → Prop) (g : List D → Option D) : Prop := ∀ {F H : Hp} {vs : List V} {ds : List D} {z : D} {Q : VK}, Same F H → Rps K ad F vs ds → g ds = some z → (∀ v, Rp K ad F v z → Q v H) → (∀ p us zs, z = .tup zs → Rps K ad F us zs → H p = none → Q (.ref p) (upd H p (.tup us))) → r vs H Q
variable (K ad) in
def OBc (r : List V → Hp → VK → Prop) (g : List D → Option CC) : Prop := ∀ {F H : Hp} {vs : List V} {ds : List D} {z : CC} {Q : VK}, Same F H → Rps K ad F vs ds → g ds = some z → (∀ p o, H p = none → (F p = none → CelR K ad F (upd H p o) p z) → Q (.ref p) (upd H p o)) → r vs H Q
theorem w_B {r : List V → Hp → VK → Prop} {g : List D → Option D} {es : List DE} {Q : VK} (O : OB K ct.ad r g) (h : TP K ct W (evB g es) σ H Q) : tCB r (TD K ct W (evDs es)) σ H Q := by
  obtain ⟨fr, F, ρ, S, h⟩ := h
  refine Tat.bnd h S fun F1 H1 ρ1 vs ds s1 S1 r1 h => ?_
  obtain ⟨z, e1, q⟩ := h.opt
  obtain ⟨y, e2, rfl⟩ := map_some e1
  refine O S1.fh r1 e2 (fun v rv => q v F1 H1 (Same.refl _) S1 rv) fun p us zs ez rs hp => ?_
  subst ez
  exact q _ (upd F1 p (.tup us)) _ (same_up (S1.nn hp)) (S1.newD hp) (Rp.tup (SqT.of upd_same) (rs.mono (same_up (S1.nn hp))))
theorem w_Bc {r : List V → Hp → VK → Prop} {g : List D → Option CC} {es : List DE} {Q : VK} (O : OBc K ct.ad r g) (h : TP K ct W (evBc g es) σ H Q) : tCB r (TD K ct W (evDs es)) σ H Q := by
  obtain ⟨fr, F, ρ, S, h⟩ := h
  refine Tat.bnd h S fun F1 H1 ρ1 vs ds s1 S1 r1 h => ?_
  obtain ⟨z, e1, q⟩ := h.opt
  obtain ⟨y, e2, rfl⟩ := map_some e1
  exact O S1.fh r1 e2 fun p o hp rc => q _ F1 _ (Same.refl _) (S1.newC hp) ⟨p, rfl, S1.fresh hp (rc (S1.nn hp))⟩
section
variable {X : Cx} {x : Str} {p pos : Pos} {e : Expr} {es : List Expr} {r : List V → Hp → VK → Prop} {as : List DE} {id T : String}
theorem pp_B {g : List D → Option D} (O : OB K ct.ad r g) (hc : CallR X (.builtin id) r) (hg : Gl X x) (hm : X.mg x = none) (hv : bootBuiltins x = some (.builtin id)) (ha : PA X (e :: es) (TD K ct W (evDs as))) (hn : x ≠ "__name__" := by decide) (hdb : (x == ("__debug__" : Str)) = false := by decide)
    (he : starEach (e :: es) X.env = (false, eval e X.env) :: starEach es X.env := by rfl) (hpl : (backTo pos (starEach es X.env)).any (·.1) = false := by rfl) : PE X (.Call (.Name x p) (e :: es) [] pos) (TP K ct W (evB g as)) := (pe_callB hc hg hm hv ha hn hdb he hpl).imp fun _ _ _ => w_B O
theorem pp_Bc {g : List D → Option CC} (O : OBc K ct.ad r g) (hc : CallR X (.builtin id) r) (hg : Gl X x) (hm : X.mg x = none) (hv : bootBuiltins x = some (.builtin id)) (ha : PA X (e :: es) (TD K ct W (evDs as))) (hn : x ≠ "__name__" := by decide) (hdb : (x == ("__debug__" : Str)) = false := by decide)
    (he : starEach (e :: es) X.env = (false, eval e X.env) :: starEach es X.env := by rfl) (hpl : (backTo pos (starEach es X.env)).any (·.1) = false := by rfl) : PE X (.Call (.Name x p) (e :: es) [] pos) (TP K ct W (evBc g as)) := (pe_callB hc hg hm hv ha hn hdb he hpl).imp fun _ _ _ => w_Bc O
theorem pp_T {g : List D → Option D} (O : OB K ct.ad r g) (hc : CallR X (.type T) r) (hg : Gl X x) (hm : X.mg x = none) (hv : bootBuiltins x = some (.type T)) (ha : PA X (e :: es) (TD K ct W (evDs as))) (hn : x ≠ "__name__" := by decide) (hdb : (x == ("__debug__" : Str)) = false := by decide)
    (he : starEach (e :: es) X.env = (false, eval e X.env) :: starEach es X.env := by rfl) (hpl : (backTo pos (starEach es X.env)).any (·.1) = false := by rfl) : PE X (.Call (.Name x p) (e :: es) [] pos) (TP K ct W (evB g as)) := (pe_callTy hc hg hm hv ha hn hdb he hpl).imp fun _ _ _ => w_B O
theorem pp_Tc {g : List D → Option CC} (O : OBc K ct.ad r g) (hc : CallR X (.type T) r) (hg : Gl X x) (hm : X.mg x = none) (hv : bootBuiltins x = some (.type T)) (ha : PA X (e :: es) (TD K ct W (evDs as))) (hn : x ≠ "__name__" := by decide) (hdb : (x == ("__debug__" : Str)) = false := by decide)
    (he : starEach (e :: es) X.env = (false, eval e X.env) :: starEach es X.env := by rfl) (hpl : (backTo pos (starEach es X.env)).any (·.1) = false := by rfl) : PE X (.Call (.Name x p) (e :: es) [] pos) (TP K ct W (evBc g as)) := (pe_callTy hc hg hm hv ha hn hdb he hpl).imp fun _ _ _ => w_Bc O
end
theorem or_call {X : Cx} {f : Value} {r r' : List V → Hp → VK → Prop} (h : CallR X f r) (h' : CallR X f r') : CallR X f (fun xs H Q => r xs H Q ∨ r' xs H Q) := fun pins s σ H xs us Q I rv q => q.elim (h pins s σ H xs us Q I rv) (h' pins s σ H xs us Q I rv)
/-! len -/
def gLen : List D → Option D
  | [.lst xs] => some (.int xs.length) | [.sq xs] => some (.int xs.length) | [.tup xs] => some (.int xs.length)
  | [.str z] => if z.length ≤ 16777216 then some (.int z.length) else none
  | _ => none
def rLenA (K : PySem.W.Frag) : List V → Hp → VK → Prop := fun xs H Q => OW.wLen K xs H Q ∨ OW.wLenS xs H Q
theorem c_lenA {X : Cx} (eK : X.K = K) : CallR X (.builtin "len") (rLenA K) := by subst eK; exact or_call OW.c_len OW.c_lenS
theorem ob_len : OB K ad (rLenA K) gLen := by
  intro F H vs ds z Q s r e q _
  cases r with
  | nil => cases e
  | @cons v d vs ds r rs =>
    cases rs with
    | cons _ _ => cases d <;> cases e
    | nil =>
      cases d <;> try cases e
      · rename_i t
        cases r
        have e : (if t.length ≤ 16777216 then some (D.int t.length) else none) = some z := e
        split at e
        · rename_i h; cases e; exact .inr ⟨t, rfl, h, q _ (.int _)⟩
        · cases e
      · cases r with | tup h k => exact .inl ⟨_, _, rfl, .inr (sameT s h), by rw [k.len]; exact q _ (.int _)⟩
      · cases r with | lst h k => exact .inl ⟨_, _, rfl, .inl (SqL.of (s _ _ h)), by rw [k.len]; exact q _ (.int _)⟩
      · cases r with | sq h k => exact .inl ⟨_, _, rfl, .inl (s.seq h), by rw [k.len]; exact q _ (.int _)⟩
/-! int, str, abs, min, max -/
def gInt : List D → Option D | [.int i] => some (.int i) | [.bl b] => some (.int (if b then 1 else 0)) | _ => none
theorem ob_int : OB K ad OW.wInt1 gInt := by
  intro F H vs ds z Q s r e q _
  cases r with
  | nil => cases e
  | @cons v d vs ds r rs =>
    cases rs with
    | cons _ _ => cases d <;> cases e
    | nil =>
      cases d <;> cases e
      · cases r; exact .inr ⟨_, rfl, q _ (.int _)⟩
      · cases r; exact .inl ⟨_, rfl, q _ (.int _)⟩
def gStr : List D → Option D | [.int i] => if i.natAbs.log2 < 1920 then some (.str (toString i)) else none | _ => none
theorem ob_str : OB K ad OW.wStrI gStr := by
  intro F H vs ds z Q s r e q _
  cases r with
  | nil => cases e
  | @cons v d vs ds r rs =>
    cases rs with
    | cons _ _ => cases d <;> cases e
    | nil =>
      cases d <;> try cases e
      rename_i i
      cases r
      have e : (if i.natAbs.log2 < 1920 then some (D.str (toString i)) else none) = some z := e
      split at e
      · rename_i h; cases e; exact ⟨_, rfl, h, q _ (.str _)⟩
      · cases e
def gAbs : List D → Option D | [.int i] => some (.int (if i < 0 then -i else i)) | _ => none
theorem ob_abs : OB K ad OW.wAbs gAbs := by
  intro F H vs ds z Q s r e q _
  cases r with
  | nil => cases e
  | @cons v d vs ds r rs =>
    cases rs with
    | cons _ _ => cases d <;> cases e
    | nil => cases d <;> cases e; cases r; exact ⟨_, rfl, q _ (.int _)⟩
def gMax2 : List D → Option D | [.int i, .int j] => some (.int (max i j)) | _ => none
def gMin2 : List D → Option D | [.int i, .int j] => some (.int (min i j)) | _ => none
def gMax3 : List D → Option D | [.int i, .int j, .int k] => some (.int (max i (max j k))) | _ => none
def gMin3 : List D → Option D | [.int i, .int j, .int k] => some (.int (min i (min j k))) | _ => none
theorem two {F : Hp} {vs : List V} {i j : Int} (r : Rps K ad F vs [.int i, .int j]) : vs = [.int i, .int j] := r.ints (ns := [i, j])
theorem three {F : Hp} {vs : List V} {i j k : Int} (r : Rps K ad F vs [.int i, .int j, .int k]) : vs = [.int i, .int j, .int k] := r.ints (ns := [i, j, k])
theorem ob_max2 : OB K ad OW.wMax2 gMax2 := by
  intro F H vs ds z Q s r e q _
  unfold gMax2 at e
  split at e
  · rename_i i j
    cases e
    have := two r
    subst this
    refine ⟨i, j, rfl, ?_⟩
    rw [show (if j > i then j else i) = max i j by split <;> omega]
    exact q _ (.int _)
  · cases e
theorem ob_min2 : OB K ad OW.wMin2 gMin2 := by
  intro F H vs ds z Q s r e q _
  unfold gMin2 at e
  split at e
  · rename_i i j
    cases e
    have := two r
    subst this
    refine ⟨i, j, rfl, ?_⟩
    rw [show (if j < i then j else i) = min i j by split <;> omega]
    exact q _ (.int _)
  · cases e
theorem ob_max3 : OB K ad OW.wMax3 gMax3 := by
  intro F H vs ds z Q s r e q _
  unfold gMax3 at e
  split at e
  · rename_i i j k
    cases e
    have := three r
    subst this
    exact ⟨i, j, k, rfl, q _ (.int _)⟩
  · cases e
theorem ob_min3 : OB K ad OW.wMin3 gMin3 := by
  intro F H vs ds z Q s r e q _
  unfold gMin3 at e
  split at e
  · rename_i i j k
    cases e
    have := three r
    subst this
    exact ⟨i, j, k, rfl, q _ (.int _)⟩
  · cases e
/-- a list of ints as it lies -/
theorem Rp.lints {F H : Hp} {v : V} {d : D} {xs : List D} {ns : List Int} (s : Same F H) (r : Rp K ad F v d) (h : d.litems = some xs) (hn : D.ints xs = some ns) : ∃ p, v = .ref p ∧ SqL K H p (ns.map V.int) := by
  cases d <;> cases h
  · cases r with | lst h k => rw [D.ints_eq hn] at k; rw [k.ints] at h; exact ⟨_, rfl, SqL.of (s _ _ h)⟩
  · cases r with | sq h k => rw [D.ints_eq hn] at k; rw [k.ints] at h; exact ⟨_, rfl, s.seq h⟩
theorem Rp.lbls {F H : Hp} {v : V} {d : D} {xs : List D} {ns : List Bool} (s : Same F H) (r : Rp K ad F v d) (h : d.litems = some xs) (hn : D.bools xs = some ns) : ∃ p, v = .ref p ∧ SqL K H p (ns.map V.bl) := by
  cases d <;> cases h
  · cases r with | lst h k => rw [D.bools_eq hn] at k; rw [k.bls] at h; exact ⟨_, rfl, SqL.of (s _ _ h)⟩
  · cases r with | sq h k => rw [D.bools_eq hn] at k; rw [k.bls] at h; exact ⟨_, rfl, s.seq h⟩
def lints (d : D) : Option (List Int) := d.litems.bind D.ints
def lbools (d : D) : Option (List Bool) := d.litems.bind D.bools
theorem lints_i {d : D} {ns : List Int} (h : lints d = some ns) : ∃ xs, d.litems = some xs ∧ D.ints xs = some ns := by
  unfold lints at h
  cases e : d.litems with
  | none =>
    rw [e] at h
    cases h
  | some xs => rw [e] at h; exact ⟨xs, rfl, h⟩
theorem lbools_i {d : D} {ns : List Bool} (h : lbools d = some ns) : ∃ xs, d.litems = some xs ∧ D.bools xs = some ns := by
  unfold lbools at h
  cases e : d.litems with
  | none =>
    rw [e] at h
    cases h
  | some xs => rw [e] at h; exact ⟨xs, rfl, h⟩
def maxI : List Int → Int | [] => 0 | n :: ns => ns.foldl max n
def minI : List Int → Int | [] => 0 | n :: ns => ns.foldl min n
theorem foldl_max' : ∀ (ns : List Int) (m : Int), m ≤ ns.foldl max m ∧ (∀ n ∈ ns, n ≤ ns.foldl max m) ∧ (ns.foldl max m = m ∨ ns.foldl max m ∈ ns)
  | [], m => ⟨Int.le_refl _, fun _ h => by simp at h, .inl rfl⟩
  | n :: ns, m => by
    obtain ⟨h1, h2, h3⟩ := foldl_max' ns (max m n)
    rw [List.foldl_cons]
    refine ⟨by omega, fun x hx => ?_, ?_⟩
    · rcases List.mem_cons.mp hx with rfl | hx
      · omega
      · exact h2 x hx
    · rcases h3 with e | e
      · rcases Int.le_total m n with c | c
        · exact .inr (by rw [e]; exact List.mem_cons.mpr (.inl (by omega)))
        · exact .inl (by omega)
      · exact .inr (List.mem_cons_of_mem _ e)
theorem foldl_min' : ∀ (ns : List Int) (m : Int), ns.foldl min m ≤ m ∧ (∀ n ∈ ns, ns.foldl min m ≤ n) ∧ (ns.foldl min m = m ∨ ns.foldl min m ∈ ns)
  | [], m => ⟨Int.le_refl _, fun _ h => by simp at h, .inl rfl⟩
  | n :: ns, m => by
    obtain ⟨h1, h2, h3⟩ := foldl_min' ns (min m n)
    rw [List.foldl_cons]
    refine ⟨by omega, fun x hx => ?_, ?_⟩
    · rcases List.mem_cons.mp hx with rfl | hx
      · omega
      · exact h2 x hx
    · rcases h3 with e | e
      · rcases Int.le_total m n with c | c
        · exact .inl (by omega)
        · exact .inr (by rw [e]; exact List.mem_cons.mpr (.inl (by omega)))
      · exact .inr (List.mem_cons_of_mem _ e)
theorem maxI_spec {ns : List Int} (h : ns ≠ []) : maxI ns ∈ ns ∧ ∀ n ∈ ns, n ≤ maxI ns := by
  cases ns with
  | nil => exact absurd rfl h
  | cons n ns =>
    obtain ⟨h1, h2, h3⟩ := foldl_max' ns n
    refine ⟨h3.elim (fun e => by show ns.foldl max n ∈ _; rw [e]; exact List.mem_cons_self) (List.mem_cons_of_mem _), fun x hx => ?_⟩
    (rcases List.mem_cons.mp hx with rfl | hx)
    · exact h1
    · exact h2 x hx
theorem minI_spec {ns : List Int} (h : ns ≠ []) : minI ns ∈ ns ∧ ∀ n ∈ ns, minI ns ≤ n := by
  cases ns with
  | nil => exact absurd rfl h
  | cons n ns =>
    obtain ⟨h1, h2, h3⟩ := foldl_min' ns n
    refine ⟨h3.elim (fun e => by show ns.foldl min n ∈ _; rw [e]; exact List.mem_cons_self) (List.mem_cons_of_mem _), fun x hx => ?_⟩
    (rcases List.mem_cons.mp hx with rfl | hx)
    · exact h1
    · exact h2 x hx
def gMaxL : List D → Option D | [d] => (lints d).bind fun ns => if ns ≠ [] then some (.int (maxI ns)) else none | _ => none
def gMinL : List D → Option D | [d] => (lints d).bind fun ns => if ns ≠ [] then some (.int (minI ns)) else none | _ => none
def gSum : List D → Option D | [d] => (lints d).map fun ns => .int ns.sum | _ => none
def gAny : List D → Option D | [d] => (lbools d).map fun bs => .bl (bs.any id) | _ => none
def gAll : List D → Option D | [d] => (lbools d).map fun bs => .bl (bs.all id) | _ => none
theorem one_i {F : Hp} {vs : List V} {d : D} (r : Rps K ad F vs [d]) : ∃ v, vs = [v] ∧ Rp K ad F v d := by
  cases r with
  | cons r rs => cases rs; exact ⟨_, rfl, r⟩
theorem ob_maxL : OB K ad (rMax K) gMaxL := by
  intro F H vs ds z Q s r e q _
  unfold gMaxL at e
  split at e
  · rename_i d
    cases e1 : lints d with
    | none => rw [e1] at e; cases e
    | some ns =>
      rw [e1] at e
      have e : (if ns ≠ [] then some (D.int (maxI ns)) else none) = some z := e
      split at e
      · rename_i h
        cases e
        obtain ⟨v, rfl, rv⟩ := one_i r
        obtain ⟨xs, g1, g2⟩ := lints_i e1
        obtain ⟨p, rfl, hp⟩ := rv.lints s g1 g2
        refine ⟨p, ns, rfl, hp, List.length_pos_iff.mpr h, fun m m1 m2 => ?_⟩
        obtain ⟨a1, a2⟩ := maxI_spec h
        rw [show m = maxI ns by have := a2 m m1; have := m2 _ a1; omega]
        exact q _ (.int _)
      · cases e
  · cases e
theorem ob_minL : OB K ad (rMin K) gMinL := by
  intro F H vs ds z Q s r e q _
  unfold gMinL at e
  split at e
  · rename_i d
    cases e1 : lints d with
    | none => rw [e1] at e; cases e
    | some ns =>
      rw [e1] at e
      have e : (if ns ≠ [] then some (D.int (minI ns)) else none) = some z := e
      split at e
      · rename_i h
        cases e
        obtain ⟨v, rfl, rv⟩ := one_i r
        obtain ⟨xs, g1, g2⟩ := lints_i e1
        obtain ⟨p, rfl, hp⟩ := rv.lints s g1 g2
        refine ⟨p, ns, rfl, hp, List.length_pos_iff.mpr h, fun m m1 m2 => ?_⟩
        obtain ⟨a1, a2⟩ := minI_spec h
        rw [show m = minI ns by have := a2 m m1; have := m2 _ a1; omega]
        exact q _ (.int _)
      · cases e
  · cases e
theorem ob_sum : OB K ad (rSum K) gSum := by
  intro F H vs ds z Q s r e q _
  unfold gSum at e
  split at e
  · rename_i d
    obtain ⟨ns, e1, rfl⟩ := map_some e
    obtain ⟨v, rfl, rv⟩ := one_i r
    obtain ⟨xs, g1, g2⟩ := lints_i e1
    obtain ⟨p, rfl, hp⟩ := rv.lints s g1 g2
    exact ⟨p, ns, rfl, hp, q _ (.int _)⟩
  · cases e
theorem ob_any : OB K ad (rAny K) gAny := by
  intro F H vs ds z Q s r e q _
  unfold gAny at e
  split at e
  · rename_i d
    obtain ⟨ns, e1, rfl⟩ := map_some e
    obtain ⟨v, rfl, rv⟩ := one_i r
    obtain ⟨xs, g1, g2⟩ := lbools_i e1
    obtain ⟨p, rfl, hp⟩ := rv.lbls s g1 g2
    exact ⟨p, ns, rfl, hp, q _ (.bl _)⟩
  · cases e
theorem ob_all : OB K ad (rAll K) gAll := by
  intro F H vs ds z Q s r e q _
  unfold gAll at e
  split at e
  · rename_i d
    obtain ⟨ns, e1, rfl⟩ := map_some e
    obtain ⟨v, rfl, rv⟩ := one_i r
    obtain ⟨xs, g1, g2⟩ := lbools_i e1
    obtain ⟨p, rfl, hp⟩ := rv.lbls s g1 g2
    exact ⟨p, ns, rfl, hp, q _ (.bl _)⟩
  · cases e
/-! tuple, list -/
def gTup : List D → Option D | [.lst xs] => some (.tup xs) | [.sq xs] => some (.tup xs) | [.tup xs] => some (.tup xs) | _ => none
def rTupA (K : PySem.W.Frag) : List V → Hp → VK → Prop := fun xs H Q => ∃ p ys, xs = [.ref p] ∧ ((SqL K H p ys ∧ ∀ l, H l = none → Q (.ref l) (upd H l (.tup ys))) ∨ (SqT K H p ys ∧ Q (.ref p) H))
theorem c_tupA {X : Cx} (eK : X.K = K) : CallR X (.type "tuple") (rTupA K) := by subst eK; exact call_tuple_of
theorem ob_tup : OB K ad (rTupA K) gTup := by
  intro F H vs ds z Q s r e q q2
  unfold gTup at e
  split at e
  · cases e
    obtain ⟨v, rfl, rv⟩ := one_i r
    cases rv with | lst h k => exact ⟨_, _, rfl, .inl ⟨SqL.of (s _ _ h), fun l hl => q2 l _ _ rfl k hl⟩⟩
  · cases e
    obtain ⟨v, rfl, rv⟩ := one_i r
    cases rv with | sq h k => exact ⟨_, _, rfl, .inl ⟨s.seq h, fun l hl => q2 l _ _ rfl k hl⟩⟩
  · cases e
    obtain ⟨v, rfl, rv⟩ := one_i r
    cases rv with | tup h k => exact ⟨_, _, rfl, .inr ⟨sameT s h, q _ (.tup h k)⟩⟩
  · cases e
def gLst : List D → Option CC | [d] => d.items.map CC.lst | _ => none
def rLstA (K : PySem.W.Frag) : List V → Hp → VK → Prop := fun xs H Q => ∃ p ys, xs = [.ref p] ∧ (SqL K H p ys ∨ SqT K H p ys) ∧ ∀ l, H l = none → Q (.ref l) (upd H l (.lst ys))
theorem c_lstA {X : Cx} (eK : X.K = K) : CallR X (.type "list") (rLstA K) := by subst eK; exact call_list_of
theorem ob_lst : OBc K ad (rLstA K) gLst := by
  intro F H vs ds z Q s r e q
  unfold gLst at e
  split at e
  · obtain ⟨xs, e1, rfl⟩ := map_some e
    obtain ⟨v, rfl, rv⟩ := one_i r
    obtain ⟨p, us, rfl, h1, h2⟩ := rv.seq s e1
    exact ⟨p, us, rfl, h1, fun l hl => q l _ hl fun _ => ⟨_, upd_same, h2⟩⟩
  · cases e
/-! ### isinstance -/
inductive TyN | b (n : String) | o (c : Cl)
  deriving DecidableEq
def TyN.v (ad : Cl → Addr) : TyN → Value | .b n => .type n | .o c => .ref (ad c)
def D.tyN : D → Option TyN
  | .non => some (.b "NoneType") | .bl _ => some (.b "bool") | .int _ => some (.b "int") | .str _ => some (.b "str") | .tup _ => some (.b "tuple") | .lst _ => some (.b "list") | .sq _ => some (.b "list")
  | .obj c _ => some (.o c) | .dK _ _ => some (.b "dict") | .dT _ _ => some (.b "dict") | _ => none
structure ClsT (K : PySem.W.Frag) (C : Addr) : Prop where
  cl : Cls K C
  c1 : PySem.W.findIn K (.ref C) "__class__" = some (some (.builtin "object.__class__"))
  c2 : PySem.W.specialIn K (.builtin "object.__class__") "__get__" = some (some (.builtin "getset_descriptor.__get__"))
  c3 : PySem.W.takesIn K (.builtin "object.__class__") = some true
  c4 : PySem.W.mroIn K C (.type "object") = some true
variable (K ad) in
inductive IsiOk (u : Value) : List (TyN × Bool) → Prop
  | nil : IsiOk u []
  | b {n : String} {x : Bool} {r : List (TyN × Bool)} (h : PySem.W.kitOne K (.type n) u = some x) (t : IsiOk u r) : IsiOk u ((.b n, x) :: r)
  | o {c : Cl} {x : Bool} {r : List (TyN × Bool)} (h : PySem.W.kitOne K (.ref (ad c)) u = some x) (k : ClsT K (ad c)) (t : IsiOk u r) : IsiOk u ((.o c, x) :: r)
theorem IsiOk.get {u : Value} : ∀ {tbl : List (TyN × Bool)} {t : TyN} {x : Bool}, IsiOk K ad u tbl → tbl.lookup t = some x → PySem.W.kitOne K (t.v ad) u = some x ∧ ∀ c, t = .o c → ClsT K (ad c)
  | _, _, _, .nil, h =>
    by cases h
  | _, t, x, .b (n := n) (x := y) (r := r) h k, e => by
    rw [List.lookup_cons] at e
    cases q : t == TyN.b n with
    | true => rw [q] at e; have e : some y = some x := e; cases e; have := beq_iff_eq.mp q; subst this; exact ⟨h, fun c z => nomatch z⟩
    | false => rw [q] at e; exact k.get e
  | _, t, x, .o (c := c0) (x := y) (r := r) h k0 k, e => by
    rw [List.lookup_cons] at e
    cases q : t == TyN.o c0 with
    | true => rw [q] at e; have e : some y = some x := e; cases e; have := beq_iff_eq.mp q; subst this; exact ⟨h, fun c z => by cases z; exact k0⟩
    | false => rw [q] at e; exact k.get e
theorem Rp.ty {F H : Hp} {v : V} {d : D} {t : TyN} (s : Same F H) (r : Rp K ad F v d) (h : d.tyN = some t) (k : ∀ c, t = .o c → ClsT K (ad c)) : TyX K H v (t.v ad) := by
  cases r with
  | non => cases h; exact .base .non
  | bl b => cases h; exact .base (.bl b)
  | int i => cases h; exact .base (.int i)
  | str x => cases h; exact .base (.str x)
  | @tup p vs ds h1 k1 =>
    cases h
    rcases sameT s h1 with (h2 | ⟨o, h2⟩) | ⟨o, its, n, h2, h3, _⟩
    · exact .base (.tup h2)
    · exact .fTuple h2
    · exact .kTuple h2 h3
  | lst h1 k1 => cases h; exact .base (.lst (s _ _ h1))
  | @sq p vs ds h1 k1 =>
    cases h
    rcases s.seq h1 with (h2 | ⟨o, h2⟩) | ⟨o, its, n, h2, h3, _⟩
    · exact .base (.lst h2)
    · exact .base (.frz h2)
    · exact .kList h2 h3
  | @obj p dx c vs ds h1 _ _ => cases h; have T := k c rfl; exact .base (.ins (s _ _ h1) T.cl T.c1 T.c2 T.c3 T.c4)
  | cl c => cases h
  | dK h1 _ _ => cases h; exact .base (.dK (s _ _ h1))
  | dT h1 _ _ => cases h; exact .base (.dT (s _ _ h1))
def evIsi (tbl : List (TyN × Bool)) (e : Ev) : Ev := bnd (dat e) fun d => opt ((d.tyN.bind fun t => tbl.lookup t).map fun b => Rv.d (.bl b))
theorem pp_isi {X : Cx} {p pos : Pos} {e c : Expr} {fe : Ev} {cv : V} {u : Value} {tbl : List (TyN × Bool)} (eK : X.K = K) (T : IsiOk K ct.ad u tbl) (hcv : ClsV cv u) (hg : Gl X "isinstance") (hm : X.mg "isinstance" = none) (he : PE X e (TP K ct W fe)) (hc : PE X c (tC cv))
    (h1 : starEach (e :: [c]) X.env = (false, eval e X.env) :: starEach [c] X.env := by rfl) (h2 : starEach [c] X.env = (false, eval c X.env) :: starEach [] X.env := by rfl) (hpl : (backTo pos (starEach [c] X.env)).any (·.1) = false := by rfl) :
    PE X (.Call (.Name "isinstance" p) [e, c] [] pos) (TP K ct W (evIsi tbl fe)) := by
  subst eK
  refine (pe_callB (x := "isinstance") call_isi hg hm (by decide +kernel) (pa_cons he (pa_cons hc pa_nil h2) h1) (by decide) (by decide) h1 hpl).imp fun σ H Q h => ?_
  obtain ⟨fr, F, ρ, S, h⟩ := h
  refine Tat.dat h S fun F1 H1 ρ1 v d s1 S1 r1 h => ?_
  obtain ⟨z, e1, q⟩ := h.opt
  obtain ⟨b, e2, rfl⟩ := map_some e1
  cases e3 : d.tyN with
  | none => rw [e3] at e2; cases e2
  | some t =>
    rw [e3] at e2
    have e2 : tbl.lookup t = some b := e2
    obtain ⟨g1, g2⟩ := T.get e2
    exact ⟨v, cv, _, u, b, rfl, hcv, r1.ty S1.fh e3 g2, g1, q _ F1 H1 (Same.refl _) S1 (Rp.bl b)⟩
end PL
end
section
namespace PL
open PySem PySem.Spec PyProof.Rows L2
variable {K : PySem.W.Frag} {ad : Cl → Addr} {ct : CT}
variable {fr : Fr} {F F' H H' : Hp} {σ : L2.St} {ρ : List Sl} {W : WX}
/-! ### raise, try -/
def evRaise (c : Cl) : M Fl := fun ρ => some (.er c none, ρ)
def evRaise1 (c : Cl) (e : Ev) : M Fl := bnd e fun _ => evRaise c
theorem Sat.raise {D : Ends} {c : Cl} (h : Sat K ct W D fr F ρ (evRaise c)) (S : Rel K ct fr F H σ ρ) : W (.ref (ct.ad c)) none σ H := by
  obtain ⟨r, ρ', e, q⟩ := h
  cases e
  exact q σ none F H (Same.refl _) S rfl
theorem s_raise {X : Cx} {x m : Str} {j : Nat} {p p2 pos pos' : Pos} {bmB : List Value} {B newId initId : String} (c : Cl) (hc : X.calm = true) (tk : Takes X W) (Fx : ExcBaseFacts B newId initId bmB) (q : PySem.W.excIn X.K (ct.ad c) bmB newId = true) (gC : X.mg x = some (.ref (ct.ad c))) (kC : PySem.W.keepIn X.K (.ref (ct.ad c)) = true) (r : Raises X (.ref (ct.ad c))) (hg : Gl X x)
    (hdb : (x == ("__debug__" : Str)) = false := by decide) : PS X (.Raise (some (.Call (.Name x p) [.Constant (.str m) j p2] [] pos)) none pos') (TSt K ct W (evRaise c)) := (ps_raise hc tk (pmk_own Fx q gC kC r hg hdb)).imp fun D σ H ⟨fr, F, ρ, S, h⟩ => Sat.raise h S
theorem s_raise1 {X : Cx} {x : Str} {p pos pos' : Pos} {e : Expr} {fe : Ev} {bmB : List Value} {B newId initId : String} (c : Cl) (hc : X.calm = true) (tk : Takes X W) (Fx : ExcBaseFacts B newId initId bmB) (q : PySem.W.excIn X.K (ct.ad c) bmB newId = true) (gC : X.mg x = some (.ref (ct.ad c))) (kC : PySem.W.keepIn X.K (.ref (ct.ad c)) = true) (r : Raises X (.ref (ct.ad c))) (hg : Gl X x)
    (he : PE X e (TP K ct W fe)) (hs : starEach [e] X.env = (false, eval e X.env) :: starEach [] X.env := by rfl) (hdb : (x == ("__debug__" : Str)) = false := by decide) : PS X (.Raise (some (.Call (.Name x p) [e] [] pos)) none pos') (TSt K ct W (evRaise1 c fe)) := (ps_raise hc tk (SkE.pmk_own1 Fx q gC kC r hg he hs hdb)).imp fun D σ H ⟨fr, F, ρ, S, h⟩ =>
  Sat.bnd K ct h S (fun _ _ _ _ z => z) fun F1 H1 ρ1 v r s1 S1 r1 h => Sat.raise h S1
/-- a raise that is never come to -/
theorem s_never {X : Cx} {e : Option Expr} {pos : Pos} (h : PS X (.Raise e none pos) tNever) : PS X (.Raise e none pos) (TSt K ct W fai) := h.imp fun D σ H ⟨fr, F, ρ, S, _, _, e, _⟩ => by cases e
def noExn (ρ : List Sl) : Bool := ρ.all fun s => match s with | .exn _ _ => false | _ => true
theorem noExn_at (h : noExn ρ = true) {i : Nat} {c : Cl} {pl : Option D} : ρ[i]? ≠ some (.exn c pl) := fun e => by
  have := List.all_eq_true.mp h _ (List.mem_of_getElem? e)
  cases this
/-- another exception is held -/
theorem Rel.ek {ct' : CT} (S : Rel K ct fr F H σ ρ) (e : ct'.ad = ct.ad) (h : noExn ρ = true) : Rel K ct' fr F H σ ρ := by
  refine ⟨S.len, S.fh, fun i s z => ?_, S.dis, S.keep, S.fro, S.pcs⟩
  obtain ⟨o, g1, g2⟩ := S.slot i s z
  refine ⟨o, g1, ?_⟩
  cases s with
  | un => trivial
  | dat d => obtain ⟨v, a1, a2⟩ := g2; exact ⟨v, a1, by rw [e]; exact a2⟩
  | cel k c => obtain ⟨p, a1, a2, a3, a4, a5, a6⟩ := g2; exact ⟨p, a1, a2, a3, a4, a5, by rw [e]; exact a6⟩
  | exn c pl => exact absurd z (noExn_at h)
theorem Rel.setX (S : Rel K ct fr F H σ ρ) {i : Nat} {c : Cl} {pl : Option D} (h : ct.ecl = .ref (ct.ad c)) (r : PlR K ct.ad F c pl ct.ed) (np : fr.pa i = none) : Rel K ct fr F H (σ.set i (some (.ref ct.ea))) (ρ.set i (.exn c pl)) := by
  have dn : ∀ {j : Nat} {k : CK} {c1 : CC}, (ρ.set i (.exn c pl))[j]? = some (.cel k c1) → j ≠ i ∧ ρ[j]? = some (.cel k c1) := fun {j k c1} e => by
    by_cases q : i = j
    · subst q
      by_cases l : i < ρ.length
      · rw [List.getElem?_set_self l] at e; cases e
      · rw [List.getElem?_eq_none (by simp; omega)] at e; cases e
    · rw [List.getElem?_set_ne q] at e; exact ⟨fun z => q z.symm, e⟩
  refine ⟨by simp [S.len], S.fh, fun j s e => ?_, fun a b k c k' c' p e1 e2 e3 e4 => ?_, S.keep, S.fro, fun j p e => ?_⟩
  · by_cases q : i = j
    · subst q
      by_cases l : i < ρ.length
      · rw [List.getElem?_set_self l] at e
        cases e
        exact ⟨_, by rw [List.getElem?_set_self (by rw [S.len]; exact l)], rfl, h, r⟩
      · rw [List.getElem?_eq_none (by simp; omega)] at e; cases e
    · rw [List.getElem?_set_ne q] at e
      obtain ⟨o, h1, h2⟩ := S.slot j s e
      exact ⟨o, by rw [List.getElem?_set_ne q]; exact h1, h2⟩
  · obtain ⟨n1, f1⟩ := dn e1
    obtain ⟨n2, f2⟩ := dn e2
    rw [List.getElem?_set_ne (Ne.symm n1)] at e3
    rw [List.getElem?_set_ne (Ne.symm n2)] at e4
    exact S.dis a b _ _ _ _ p f1 f2 e3 e4
  · obtain ⟨k, c, h1, h2⟩ := S.pcs j p e
    refine ⟨k, c, ?_, h2⟩
    rw [List.getElem?_set_ne (fun q => by rw [q, e] at np; cases np)]
    exact h1
variable (K ad) in
inductive CatOk (cv : Value) : List (Cl × Bool) → Prop
  | nil : CatOk cv []
  | cons {c : Cl} {b : Bool} {r : List (Cl × Bool)} (h : PySem.W.exmOne K (.ref (ad c)) cv = some b) (t : CatOk cv r) : CatOk cv ((c, b) :: r)
theorem CatOk.get {cv : Value} : ∀ {cat : List (Cl × Bool)} {c : Cl} {b : Bool}, CatOk K ad cv cat → cat.lookup c = some b → PySem.W.exmOne K (.ref (ad c)) cv = some b
  | _, _, _, .nil, h => by cases h
  | _, c, b, .cons (c := c0) (b := b0) h t, e => by
    rw [List.lookup_cons] at e
    cases q : c == c0 with
    | true => rw [q] at e; have e : some b0 = some b := e; cases e; have := beq_iff_eq.mp q; subst this; exact h
    | false => rw [q] at e; exact t.get e
/-- what is behind a suite -/
def suiteO (s : M Fl) : M Fl := fun ρ => if noExn ρ then match s ρ with
  | some (.ok f, ρ2) => if noExn ρ2 then some (.ok f, ρ2) else none
  | _ => none else none
def suiteA (i : Nat) (c : Cl) (pl : Option D) (s : M Fl) : M Fl := fun ρ => if noExn ρ then (match ρ[i]? with
  | some (.cel .par _) => none
  | some _ => (match s (ρ.set i (.exn c pl)) with
    | some (.ok f, ρ2) => if noExn (ρ2.set i .un) then some (.ok f, ρ2.set i .un) else none
    | _ => none)
  | none => none) else none
def evTryO (body : M Fl) (cat : List (Cl × Bool)) (s : M Fl) : M Fl := fun ρ => match body ρ with
  | some (.er c pl, ρ1) => (match cat.lookup c with
    | some true => suiteO s ρ1
    | some false => some (.er c pl, ρ1)
    | none => none)
  | r => r
def evTryA (i : Nat) (body : M Fl) (cat : List (Cl × Bool)) (s : M Fl) : M Fl := fun ρ => match body ρ with
  | some (.er c pl, ρ1) => (match cat.lookup c with
    | some true => suiteA i c pl s ρ1
    | some false => some (.er c pl, ρ1)
    | none => none)
  | r => r
/-- the context of a suite -/
abbrev CT.su (ct : CT) (a : Addr) (cls : Value) (d : Option Addr) : CT := { ct with ea := a, ecl := cls, ed := d }
theorem w_tryO {cv : Value} {body s : M Fl} {cat : List (Cl × Bool)} {D : Ends} (C : CatOk K ct.ad cv cat) (h : TSt K ct W (evTryO body cat s) D σ H) : TSt K ct (wOnly K cv (fun a cls d => TSt K (ct.su a cls d) WF s) W D) body D σ H := by
  obtain ⟨fr, F, ρ, S, r, ρ', e, q⟩ := h
  refine ⟨fr, F, ρ, S, ?_⟩
  unfold evTryO at e
  cases eb : body ρ with
  | none => rw [eb] at e; cases e
  | some x =>
    obtain ⟨rb, ρ1⟩ := x
    rw [eb] at e
    refine ⟨rb, ρ1, eb, ?_⟩
    cases rb with
    | ok f => cases e; cases f <;> exact q
    | er c pl =>
      intro σ1 d F1 H1 s1 S1 pr
      have e : (match cat.lookup c with | some true => suiteO s ρ1 | some false => some (.er c pl, ρ1) | none => none) = some (r, ρ') := e
      cases ec : cat.lookup c with
      | none => rw [ec] at e; cases e
      | some b =>
        rw [ec] at e
        refine ⟨b, C.get ec, fun hb a ha => ?_, fun hb => ?_⟩
        · subst hb
          have e : suiteO s ρ1 = some (r, ρ') := e
          unfold suiteO at e
          split at e
          · rename_i n1
            split at e
            · rename_i f ρ2 es
              split at e
              · rename_i n2
                cases e
                refine ⟨fr, F1, ρ1, S1.ek rfl n1, .ok f, _, es, ?_⟩
                cases f with
                | nx => exact fun σ2 F2 H2 s2 S2 => q σ2 F2 H2 (s1.trans s2) (S2.ek rfl n2)
                | bk => exact fun σ2 F2 H2 s2 S2 => q σ2 F2 H2 (s1.trans s2) (S2.ek rfl n2)
                | ct => exact fun σ2 F2 H2 s2 S2 => q σ2 F2 H2 (s1.trans s2) (S2.ek rfl n2)
                | rt x => exact fun σ2 v F2 H2 s2 S2 rv => q σ2 v F2 H2 (s1.trans s2) (S2.ek rfl n2) rv
              · cases e
            · cases e
          · cases e
        · subst hb
          cases e
          exact q σ1 d F1 H1 s1 S1 pr
theorem w_tryA {i : Nat} {cv : Value} {body s : M Fl} {cat : List (Cl × Bool)} {D : Ends} (C : CatOk K ct.ad cv cat) (h : TSt K ct W (evTryA i body cat s) D σ H) : TSt K ct (wAs K cv i (fun a cls d => TSt K (ct.su a cls d) WF s) W D) body D σ H := by
  obtain ⟨fr, F, ρ, S, r, ρ', e, q⟩ := h
  refine ⟨fr, F, ρ, S, ?_⟩
  unfold evTryA at e
  cases eb : body ρ with
  | none => rw [eb] at e; cases e
  | some x =>
    obtain ⟨rb, ρ1⟩ := x
    rw [eb] at e
    refine ⟨rb, ρ1, eb, ?_⟩
    cases rb with
    | ok f => cases e; cases f <;> exact q
    | er c pl =>
      intro σ1 d F1 H1 s1 S1 pr
      have e : (match cat.lookup c with | some true => suiteA i c pl s ρ1 | some false => some (.er c pl, ρ1) | none => none) = some (r, ρ') := e
      cases ec : cat.lookup c with
      | none => rw [ec] at e; cases e
      | some b =>
        rw [ec] at e
        refine ⟨b, C.get ec, fun hb a ha => ?_, fun hb => ?_⟩
        · subst hb
          have e : suiteA i c pl s ρ1 = some (r, ρ') := e
          unfold suiteA at e
          split at e
          · rename_i n1
            split at e
            · cases e
            · rename_i sl hn hsl
              have np := S1.npar hsl hn
              split at e
              · rename_i f ρs es
                split at e
                · rename_i n2
                  cases e
                  have S3 : Rel K (ct.su a (.ref (ct.ad c)) d) fr F1 H1 σ1 ρ1 := S1.ek rfl n1
                  refine ⟨fr, F1, _, S3.setX rfl pr np, .ok f, _, es, ?_⟩
                  cases f with
                  | nx => exact fun σ2 F2 H2 s2 S2 => q _ F2 H2 (s1.trans s2) ((S2.setU np).ek rfl n2)
                  | bk => exact fun σ2 F2 H2 s2 S2 => q _ F2 H2 (s1.trans s2) ((S2.setU np).ek rfl n2)
                  | ct => exact fun σ2 F2 H2 s2 S2 => q _ F2 H2 (s1.trans s2) ((S2.setU np).ek rfl n2)
                  | rt x =>
                    intro σ2 v F2 H2 s2 S2 rv
                    refine q σ2 v F2 H2 (s1.trans s2) ((S2.unR np).ek rfl n2) ?_
                    cases x with
                    | d d => exact rv
                    | c c =>
                      obtain ⟨p, ev, f1, f2, f3, f4, f5⟩ := rv
                      refine ⟨p, ev, f1, f2, f3, f4, fun j k c' z1 z2 => ?_⟩
                      by_cases w : i = j
                      · subst w
                        rw [List.getElem?_set] at z1
                        split at z1
                        · split at z1 <;> cases z1
                        · rename_i w; exact absurd rfl w
                      · rw [List.getElem?_set_ne w] at z1; exact f5 j k c' z1 z2
                · cases e
              · cases e
            · cases e
          · cases e
        · subst hb
          cases e
          exact q σ1 d F1 H1 s1 S1 pr
section
variable {X : Cx} {x n : Str} {cv : Value} {body suite : List Stmt} {b₀ : Stmt} {np pos pos' : Pos} {mb ms : M Fl} {cat : List (Cl × Bool)}
theorem s_tryO (eK : X.K = K) (hs : X.stack = X.env :: X.outer) (hf : X.env.frame = some X.env.locals) (hc : Names X x cv) (tk : Takes X W) (C : CatOk K ct.ad cv cat)
    (hb : ∀ (W : WX) (pn : List (Addr × Obj)) (xe : Value → Shared → Prop), Takes (X.tr pn xe) W → PassesOwn (model X.prog X.w) X.A X.env xe → PSs (X.tr pn xe) body (TSt K ct W mb))
    (hsu : ∀ (a : Addr) (oe : Obj) (cls : Value) (d : Option Addr) (pn : List (Addr × Obj)), Zc cls d oe → (∃ vs, oe.data = .fields vs) → PSs (X.suite a ((a, oe) :: pn)) (b₀ :: suite) (TSt K (ct.su a cls d) WF ms)) :
    PS X (.Try body [.ExceptHandler (some (.Name x np)) none (b₀ :: suite) pos'] [] [] pos) (TSt K ct W (evTryO mb cat ms)) := by
  subst eK
  exact (ps_try_only hs hf hc tk hb hsu).imp fun D σ H => w_tryO C
theorem s_tryA {i : Nat} (eK : X.K = K) (hs : X.stack = X.env :: X.outer) (hf : X.env.frame = some X.env.locals) (hN : X.N.Nodup) (hi : X.N[i]? = some n) (hln : X.env.kindOf n = some .local) (hc : Names X x cv) (tk : Takes X W) (C : CatOk K ct.ad cv cat)
    (hb : ∀ (W : WX) (pn : List (Addr × Obj)) (xe : Value → Shared → Prop), Takes (X.tr pn xe) W → PassesOwn (model X.prog X.w) X.A X.env xe → PSs (X.tr pn xe) body (TSt K ct W mb))
    (hsu : ∀ (a : Addr) (oe : Obj) (cls : Value) (d : Option Addr) (pn : List (Addr × Obj)), Zc cls d oe → (∃ vs, oe.data = .fields vs) → PSs (X.suite a ((a, oe) :: pn)) (b₀ :: suite) (TSt K (ct.su a cls d) WF ms)) :
    PS X (.Try body [.ExceptHandler (some (.Name x np)) (some n) (b₀ :: suite) pos'] [] [] pos) (TSt K ct W (evTryA i mb cat ms)) := by
  subst eK
  exact (ps_try_as hs hf hN hi hln hc tk hb hsu).imp fun D σ H => w_tryA C
end
/-! in a suite: isinstance of the exception -/
def evIsE (i : Nat) (tbl : List (TyN × Bool)) : Ev := fun ρ => match ρ[i]? with
  | some (.exn c _) => (tbl.lookup (.o c)).map fun b => (.ok (.d (.bl b)), ρ)
  | _ => none
variable (K ad) in
inductive IseOk (u : Value) : List (TyN × Bool) → Prop
  | nil : IseOk u []
  | o {c : Cl} {x : Bool} {r : List (TyN × Bool)} (h : PySem.W.kitOne K (.ref (ad c)) u = some x) (k : ExcC K (ad c)) (t : IseOk u r) : IseOk u ((.o c, x) :: r)
theorem IseOk.get {u : Value} : ∀ {tbl : List (TyN × Bool)} {c : Cl} {x : Bool}, IseOk K ad u tbl → tbl.lookup (.o c) = some x → PySem.W.kitOne K (.ref (ad c)) u = some x ∧ ExcC K (ad c)
  | _, _, _, .nil, h => by cases h
  | _, c, x, .o (c := c0) (x := y) (r := r) h k0 k, e => by
    rw [List.lookup_cons] at e
    cases q : TyN.o c == TyN.o c0 with
    | true => rw [q] at e; have e : some y = some x := e; cases e; have := beq_iff_eq.mp q; cases this; exact ⟨h, k0⟩
    | false => rw [q] at e; exact k.get e
theorem pp_isE {X : Cx} {a : Addr} {oe : Obj} {cls : Value} {d : Option Addr} {pn : List (Addr × Obj)} {x : Str} {p p2 pos : Pos} {c : Expr} {cv : V} {u : Value} {tbl : List (TyN × Bool)} (i : Nat) (eK : X.K = K) (hz : Zc cls d oe) (hf : ∃ vs, oe.data = .fields vs) (T : IseOk K ct.ad u tbl) (hcv : ∀ w, RelV cv w → w = u) (hg : Gl (X.suite a ((a, oe) :: pn)) "isinstance") (hm : X.mg "isinstance" = none)
    (he : PE (X.suite a ((a, oe) :: pn)) (.Name x p2) (tVar i)) (hc : PE (X.suite a ((a, oe) :: pn)) c (tC cv))
    (h1 : starEach ((.Name x p2) :: [c]) X.env = (false, eval (.Name x p2) X.env) :: starEach [c] X.env := by rfl) (h2 : starEach [c] X.env = (false, eval c X.env) :: starEach [] X.env := by rfl) (hpl : (backTo pos (starEach [c] X.env)).any (·.1) = false := by rfl) :
    PE (X.suite a ((a, oe) :: pn)) (.Call (.Name "isinstance" p) [.Name x p2, c] [] pos) (TP K (ct.su a cls d) W (evIsE i tbl)) := by
  subst eK
  refine (pe_callB (x := "isinstance") (OW.c_isEE hz hf) hg hm (by decide +kernel) (pa_cons he (pa_cons hc pa_nil h2) h1) (by decide) (by decide) h1 hpl).imp fun σ H Q h => ?_
  obtain ⟨fr, F, ρ, S, r, ρ', e, q⟩ := h
  unfold evIsE at e
  split at e
  · rename_i c0 pl0 e1
    obtain ⟨b, e2, e3⟩ := map_some e
    cases e3
    obtain ⟨o, g1, g2, g3, g4⟩ := S.slot i _ e1
    subst g2
    obtain ⟨t1, t2⟩ := T.get e2
    refine ⟨_, g1, ct.ad c0, cv, u, b, rfl, g3, ?_, t2, hcv, t1, q _ F H (Same.refl _) S (Rp.bl b)⟩
    cases pl0 with
    | none => exact .inl g4
    | some d0 =>
      obtain ⟨dx, f', v, h1, h2, h3, h4⟩ := g4
      exact .inr ⟨dx, _, h1, S.fh _ _ h3⟩
  · cases e
/-! in a suite: the exception's field -/
def evXf (i : Nat) (c : Cl) : Ev := fun ρ => match ρ[i]? with
  | some (.exn c' (some d)) => if c' = c then some (.ok (.d d), ρ) else none
  | _ => none
theorem pp_xf {X : Cx} {a : Addr} {oe : Obj} {cls : Value} {d : Option Addr} {pn : List (Addr × Obj)} {x f : Str} {p pos : Pos} (i : Nat) (c : Cl) (eK : X.K = K) (T : XfC X.K (ct.ad c)) (hno : PySem.W.findIn X.K (.ref (ct.ad c)) f = some none) (hz : Zc cls d oe) (hf : ∃ vs, oe.data = .fields vs) (hfn : c.fn = [f])
    (he : PE (X.suite a ((a, oe) :: pn)) (.Name x p) (tVar i)) (hb : attributeBase (.Name x p) f X.env (eval (.Name x p) X.env) = eval (.Name x p) X.env := by rfl) : PE (X.suite a ((a, oe) :: pn)) (.Attribute (.Name x p) f pos) (TP K (ct.su a cls d) W (evXf i c)) := by
  subst eK
  refine (pe_xf T hno hz hf he hb).imp fun σ H Q h => ?_
  obtain ⟨fr, F, ρ, S, r, ρ', e, q⟩ := h
  unfold evXf at e
  split at e
  · rename_i c0 d0 e1
    split at e
    · rename_i ec
      subst ec
      cases e
      obtain ⟨o, g1, g2, g3, dd, f', v, h1, h2, h3, h4⟩ := S.slot i _ e1
      subst g2
      rw [hfn] at h2
      cases h2
      refine ⟨_, g1, rfl, g3, dd, _, v, h1, S.fh _ _ h3, ?_, q _ F H (Same.refl _) S h4⟩
      simp [List.lookup]
    · cases e
  · cases e
/-! ### walks over own objects -/
def itO (c : Cl) (i : Nat) (e : Ev) : M (List D) := bnd (dat e) fun d => match d with
  | .obj c' xs => if c' = c then (match xs[i]? with | some (.tup ys) => pur ys | _ => fai) else fai
  | _ => fai
/-- an __iter__ that walks a field that is a tuple -/
def spIt (K : PySem.W.Frag) (C : Addr) (f : Str) (n : Nat) : Sp := fun vs H Q _ => ∃ (p dx t : Addr) (fs : List (Str × V)) (zs : List V), vs = [.ref p] ∧ H p = some (.ins C dx fs) ∧ fs.lookup f = some (.ref t) ∧ SqT K H t zs ∧ ∀ it, H it = none → n ≤ it → Q (.ref it) (upd H it (OW.TIt t it))
theorem pi_o {X : Cx} {tg e : Expr} {fe : Ev} {k : Nat} {g : Addr} {fd : FuncData} {ps : List Str} {f : Str} (c : Cl) (i : Nat) (eK : X.K = K) (he : PE X e (TP K ct W fe)) (M : Meth X.K (ct.ad c) "__iter__" g) (Fn : OW.FnS X.prog X.w X.K X.mg X.base k g fd ps (spIt K (ct.ad c) f)) (room : Room k X.A) (bd : Binds X.K fd ps []) (hi : c.fn.findIdx? (fun k => f == k) = some i := by decide) : PI X tg e (TIt K ct W (itO c i fe)) := by
  subst eK
  refine (OW.pi_own he M Fn room bd).imp fun σ H R h => ?_
  obtain ⟨fr, F, ρ, S, h⟩ := h
  unfold itO at h
  refine Tat.obj (k := fun xs => match xs[i]? with | some (.tup ys) => pur ys | _ => (fai : PL.M (List D))) h S fun F1 H1 ρ1 a dx vs xs s1 S1 h1 l1 k1 h => ?_
  have h : Tat X.K ct (RI X.K ct.ad) W fr F1 ρ1 (match xs[i]? with | some (.tup ys) => pur ys | _ => fai) σ R := h
  split at h
  · rename_i ys e1
    obtain ⟨v, g1, g2⟩ := k1.get e1
    cases g2 with
    | @tup t us _ h2 k2 =>
      refine ⟨a, dx, _, rfl, S1.fh _ _ h1, fun n => ⟨a, dx, t, _, us, rfl, S1.fh _ _ h1, by rw [look_zip l1 hi, g1], sameT S1.fh h2, fun it fresh young => ⟨it, t, rfl, young, fresh, rfl, Tat.ok h _ F1 H1 (Same.refl _) S1 (it_tup h2 k2)⟩⟩⟩
  · obtain ⟨_, _, e, _⟩ := h; cases e
end PL
end
section
namespace PL
open PySem PySem.Spec PyProof.Rows L2
variable {K : PySem.W.Frag} {ad : Cl → Addr} {ct : CT}
variable {fr : Fr} {F F' H H' : Hp} {σ : L2.St} {ρ : List Sl} {W : WX}
/-! ### a list that may change is looked at -/
mutual
def D.lfree : D → Bool
  | .non => true | .bl _ => true | .int _ => true | .str _ => true | .cl _ => true
  | .tup xs => D.lfrees xs
  | .obj _ xs => D.lfrees xs
  | _ => false
def D.lfrees : List D → Bool
  | [] => true
  | x :: xs => x.lfree && D.lfrees xs
end
/-- a heap without p -/
def era (F : Hp) (p : Addr) : Hp := fun b => if b = p then none else F b
theorem era_ne {F : Hp} {p b : Addr} (h : b ≠ p) : era F p b = F b := if_neg h
theorem era_same {F : Hp} {p : Addr} : era F p p = none := if_pos rfl
mutual
theorem Rp.era {F : Hp} {p : Addr} {us : List V} (hp : F p = some (.lst us)) : ∀ {v : V} {d : D}, Rp K ad F v d → d.lfree = true → Rp K ad (PL.era F p) v d
  | _, _, .non, _ => .non
  | _, _, .bl b, _ => .bl b
  | _, _, .int i, _ => .int i
  | _, _, .str x, _ => .str x
  | _, _, .cl c, _ => .cl c
  | _, _, .tup (p := q) h r, e => .tup (by
      have ne : ∀ {o : HO}, F q = some o → (∀ xs, o ≠ .lst xs) → PL.era F p q = F q := fun {o} w z => era_ne fun y => by
        rw [y, hp] at w
        cases w
        exact z _ rfl
      (rcases h with (h | ⟨o, h⟩) | h)
      · exact .inl (.inl (by rw [ne h (fun _ z => by cases z)]; exact h))
      · exact .inl (.inr ⟨o, by rw [ne h (fun _ z => by cases z)]; exact h⟩)
      · exact .inr h) (Rps.era hp r e)
  | _, _, .obj (p := q) h l r, e => .obj (by rw [era_ne fun y => by rw [y, hp] at h; cases h]; exact h) l (Rps.era hp r e)
  | _, _, .lst _ _, e => by cases e
  | _, _, .sq _ _, e => by cases e
  | _, _, .dK _ _ _, e => by cases e
  | _, _, .dT _ _ _, e => by cases e
theorem Rps.era {F : Hp} {p : Addr} {us : List V} (hp : F p = some (.lst us)) : ∀ {vs : List V} {ds : List D}, Rps K ad F vs ds → D.lfrees ds = true → Rps K ad (PL.era F p) vs ds
  | _, _, .nil, _ => .nil
  | _, _, .cons (d := d) (ds := ds) h r, e => by
    have e : (d.lfree && D.lfrees ds) = true := e
    rw [Bool.and_eq_true] at e
    exact .cons (Rp.era hp h e.1) (Rps.era hp r e.2)
end
def Rv.lfree : Rv → Bool
  | .d x => x.lfree
  | .c (.lst xs) => D.lfrees xs
  | _ => false
/-- the slots as a look sees them -/
def lkS (j : Nat) (xs : List D) : Nat → List Sl → List Sl
  | _, [] => []
  | i, .cel _ _ :: r => (if i = j then .dat (.lst xs) else .un) :: lkS j xs (i + 1) r
  | i, s :: r => s :: lkS j xs (i + 1) r
theorem lkS_len (j : Nat) (xs : List D) : ∀ (i : Nat) (r : List Sl), (lkS j xs i r).length = r.length
  | _, [] => rfl
  | i, s :: r => by cases s <;> exact congrArg (· + 1) (lkS_len j xs (i + 1) r)
theorem lkS_get (j : Nat) (xs : List D) : ∀ (i : Nat) (r : List Sl) (n : Nat), (lkS j xs i r)[n]? = (r[n]?).map fun s => match s with | .cel _ _ => if i + n = j then .dat (.lst xs) else .un | s => s
  | _, [], _ => by simp [lkS]
  | i, s :: r, 0 => by cases s <;> simp [lkS]
  | i, s :: r, n + 1 => by
    have e : (lkS j xs i (s :: r))[n + 1]? = (lkS j xs (i + 1) r)[n]? := by cases s <;> rfl
    rw [e, lkS_get j xs (i + 1) r n, List.getElem?_cons_succ, show i + 1 + n = i + (n + 1) by omega]
def look {α : Type} (j : Nat) (ok : α → Bool) (m : M α) : M α := fun ρ => match ρ[j]? with
  | some (.cel _ (.lst xs)) => (match m (lkS j xs 0 ρ) with
    | some (.ok r, _) => if ok r then some (.ok r, ρ) else none
    | _ => none)
  | _ => none
def lkFr (fr : Fr) (F1 H : Hp) : Fr := ⟨fun b => if F1 b = none then H b else none, F1, fun _ => none⟩
theorem w_look {α β : Type} {R : Rel3 β α} {j : Nat} {good : α → Bool} {m : M α} {Q : β → Hp → Prop}
    (hR : ∀ {p : Addr} {us : List V} {F1 F' H' : Hp} {ρ' : List Sl} {v : β} {r : α}, F1 p = some (.lst us) → F p = none → H p = some (.lst us) → Rel K ct fr F H σ ρ → Rel K ct fr (era F' p) H' σ ρ → Same F1 F' → (∀ b, F1 b = none → H b ≠ none → b ≠ p) → (∀ b, b ≠ p → F1 b = F b) → good r = true → R (lkFr fr F1 H) F' H' σ ρ' v r → R fr (era F' p) H' σ ρ v r)
    (S : Rel K ct fr F H σ ρ) (h : Tat K ct R W fr F ρ (look j good m) σ Q) : T K ct R W m σ H Q := by
  obtain ⟨r, ρ', e, q⟩ := h
  unfold look at e
  split at e
  · rename_i k xs hj
    split at e
    · rename_i r0 ρ2 em
      split at e
      · rename_i hg
        cases e
        obtain ⟨o, g1, p, g2, g3, g4, g5, g6, us, g7, g8⟩ := S.slot j _ hj
        subst g2
        have s01 : Same F (upd F p (.lst us)) := fun b o z => by rw [upd_ne (ne_of_none z g3)]; exact z
        have S1 : Rel K ct (lkFr fr (upd F p (.lst us)) H) (upd F p (.lst us)) H σ (lkS j xs 0 ρ) := by
          have nc : ∀ {i : Nat} {k : CK} {c : CC}, (lkS j xs 0 ρ)[i]? ≠ some (.cel k c) := fun {i k c} z => by
            rw [lkS_get] at z
            cases y : ρ[i]? with
            | none => rw [y] at z; cases z
            | some s =>
              rw [y] at z
              cases s <;> simp at z
              split at z <;> cases z
          refine ⟨by rw [lkS_len]; exact S.len, fun b o z => ?_, fun i s z => ?_, fun a b k c k' c' p e1 _ _ _ => absurd e1 nc, fun b o z => ?_, fun b hb h0 => h0, fun i p z => by cases z⟩
          · by_cases y : b = p
            · subst y; rw [upd_same] at z; cases z; exact g7
            · rw [upd_ne y] at z; exact S.fh _ _ z
          · rw [lkS_get] at z
            cases y : ρ[i]? with
            | none => rw [y] at z; cases z
            | some s0 =>
              rw [y] at z
              obtain ⟨o, h1, h2⟩ := S.slot i _ y
              refine ⟨o, h1, ?_⟩
              cases s0 with
              | un => simp at z; subst z; trivial
              | dat d => simp at z; subst z; obtain ⟨v, a1, a2⟩ := h2; exact ⟨v, a1, a2.mono s01⟩
              | exn c pl => simp at z; subst z; exact ⟨h2.1, h2.2.1, h2.2.2.mono s01⟩
              | cel k c =>
                simp at z
                by_cases w : i = j
                · subst w
                  simp at z
                  subst z
                  rw [g1] at h1
                  cases h1
                  exact ⟨_, rfl, .lst upd_same (g8.mono s01)⟩
                · rw [if_neg w] at z
                  subst z
                  trivial
          · have z : (if upd F p (.lst us) b = none then H b else none) = some o := z
            split at z
            · exact z
            · cases z
        refine ⟨_, _, _, S1, .ok r0, ρ2, em, fun v F' H' s R1 rv => ?_⟩
        have P1 : ∀ b, upd F p (.lst us) b = none → (lkFr fr (upd F p (.lst us)) H).P b = H b := fun b z => if_pos z
        have hh : Same H H' := fun b o z => by
          cases y : upd F p (.lst us) b with
          | none => exact R1.keep b o (by rw [P1 b y]; exact z)
          | some o' =>
            have := S1.fh _ _ y
            rw [z] at this
            cases this
            exact R1.fh _ _ (s _ _ y)
        have al : Al F H (era F' p) H' := ⟨fun b o z => by rw [era_ne (ne_of_none z g3)]; exact s _ _ (s01 _ _ z), hh, fun b o z => by
          by_cases y : b = p
          · subst y; rw [era_same] at z; cases z
          · rw [era_ne y] at z; exact R1.fh _ _ z, fun b hb h0 => by
          by_cases y : b = p
          · subst y; exact era_same
          · rw [era_ne y]
            have z : upd F p (.lst us) b = none := by rw [upd_ne y]; exact h0
            exact R1.fro b (by rw [P1 b z]; exact hb) z⟩
        have S2 := S.al al
        exact q v _ H' al.1 S2 (hR upd_same g3 g7 S S2 s (fun b z _ y => by subst y; rw [upd_same] at z; cases z) (fun b y => upd_ne y) hg rv)
      · cases e
    · cases e
  · cases e
theorem look_v {X : Cx} {e : Expr} {m : Ev} (j : Nat) (h : PE X e (TP K ct W m)) : PE X e (TP K ct W (look j Rv.lfree m)) := h.imp fun σ H Q ⟨fr, F, ρ, S, h⟩ => by
  refine w_look (fun {p us F1 F' H' ρ' v r} h1 h2 h3 S S2 s nb eq hg rv => ?_) S h
  have hp : F' p = some (.lst us) := s _ _ h1
  cases r with
  | d d => exact Rp.era hp rv hg
  | c c =>
    cases c with
    | lst xs =>
      obtain ⟨p', e1, f1, f2, f3, ⟨vs, f4, f6⟩, f5⟩ := rv
      have f2 : (if F1 p' = none then H p' else none) = none := f2
      have n1 : F1 p' = none := by
        cases y : F1 p' with
        | none => rfl
        | some o => rw [s _ _ y] at f1; cases f1
      rw [if_pos n1] at f2
      have np : p' ≠ p := fun y => by rw [y, h3] at f2; cases f2
      refine ⟨p', e1, by rw [era_ne np]; exact f1, S.np f2, fun i z => ?_, ⟨vs, f4, Rps.era hp f6 hg⟩, fun i k c z1 z2 => ?_⟩
      · obtain ⟨k, c, y1, y2⟩ := S.pcs i _ z
        obtain ⟨o, a1, p2, a2, a3, a4, a5, a6, a7⟩ := S.slot i _ y1
        rw [a5 y2] at z
        cases z
        obtain ⟨o, ho⟩ := a7.at
        rw [f2] at ho
        cases ho
      · obtain ⟨p2, o, y1, y2⟩ := S.cell_at z1
        rw [y1] at z2
        cases z2
        rw [f2] at y2
        cases y2
    | _ => cases hg
theorem look_b {X : Cx} {e : Expr} {m : M Bool} (j : Nat) (h : PT X e (TB K ct W m)) : PT X e (TB K ct W (look j (fun _ => true) m)) := h.imp fun σ H Q ⟨fr, F, ρ, S, h⟩ => w_look (fun {p us F1 F' H' ρ' v r} h1 h2 h3 S S2 s nb eq hg rv => rv) S h
/-! ### truth -/
def D.truth : D → Option Bool
  | .bl b => some b | .int i => some (decide (i ≠ 0)) | .non => some false
  | .lst xs => some (!xs.isEmpty) | .sq xs => some (!xs.isEmpty) | .tup xs => some (!xs.isEmpty)
  | _ => none
theorem Rps.emp {F : Hp} : ∀ {vs : List V} {ds : List D}, Rps K ad F vs ds → vs.isEmpty = ds.isEmpty
  | _, _, .nil => rfl
  | _, _, .cons _ _ => rfl
theorem Rp.tru {F H : Hp} {v : V} {d : D} {b : Bool} (s : Same F H) (r : Rp K ad F v d) (h : d.truth = some b) : TruV K v H b := by
  cases r with
  | non => cases h; rfl
  | bl _ => cases h; rfl
  | int i => cases h; show _ = _; by_cases e : i = 0 <;> simp [e]
  | str _ => cases h
  | tup h1 k1 => cases h; exact .inr (.inl ⟨_, sameT s h1, by rw [k1.emp]⟩)
  | lst h1 k1 => cases h; exact .inl ⟨_, .inl (.inl (s _ _ h1)), by rw [k1.emp]⟩
  | sq h1 k1 => cases h; exact .inl ⟨_, s.seq h1, by rw [k1.emp]⟩
  | obj _ _ _ => cases h
  | cl _ => cases h
  | dK _ _ _ => cases h
  | dT _ _ _ => cases h
def tTr (m : Ev) : M Bool := bnd (dat m) fun d => opt d.truth
def vNoT (m : Ev) : Ev := bnd (dat m) fun d => opt (d.truth.map fun b => Rv.d (.bl (!b)))
theorem pp_ttr {X : Cx} {a : Expr} {m : Ev} (eK : X.K = K) (ha : PE X a (TP K ct W m)) (he : ∀ whole, isTrue a X.env whole = (do let v ← whole; standAt a.pos; holding [v] (truthy v)) := by intro _; rfl) : PT X a (TB K ct W (tTr m)) := by
  subst eK
  refine (pt_truth ha he).imp fun σ H Q ⟨fr, F, ρ, S, h⟩ => ?_
  refine Tat.dat h S fun F1 H1 ρ1 v d s1 S1 r1 h => ?_
  obtain ⟨b, e, q⟩ := h.opt
  exact ⟨b, r1.tru S1.fh e, q b F1 H1 (Same.refl _) S1 rfl⟩
theorem pp_vnot {X : Cx} {a : Expr} {m : Ev} {pos : Pos} (eK : X.K = K) (ha : PE X a (TP K ct W m)) : PE X (.UnaryOp .Not a pos) (TP K ct W (vNoT m)) := by
  subst eK
  refine (pe_notT ha).imp fun σ H Q ⟨fr, F, ρ, S, h⟩ => ?_
  refine Tat.dat h S fun F1 H1 ρ1 v d s1 S1 r1 h => ?_
  obtain ⟨r, e, q⟩ := h.opt
  obtain ⟨b, e1, e2⟩ := map_some e
  subst e2
  exact ⟨b, r1.tru S1.fh e1, q _ F1 H1 (Same.refl _) S1 (Rp.bl _)⟩
/-! ### [::-1] -/
def evRev (m : Ev) : Ev := bnd (dat m) fun d => match d.litems with | some xs => pur (.c (.lst xs.reverse)) | none => fai
theorem pp_rev {X : Cx} {e : Expr} {m : Ev} {k : Nat} {p1 p2 p3 pos : Pos} (eK : X.K = K) (he : PE X e (TP K ct W m)) : PE X (.Subscript e (.Slice none none (some (.UnaryOp .USub (.Constant (.int 1) k p1) p2)) p3) pos) (TP K ct W (evRev m)) := by
  subst eK
  refine (pe_revL he).imp fun σ H Q ⟨fr, F, ρ, S, h⟩ => ?_
  refine Tat.dat h S fun F1 H1 ρ1 v d s1 S1 r1 h => ?_
  cases el : d.litems with
  | none => rw [el] at h; obtain ⟨_, _, e, _⟩ := h; cases e
  | some xs =>
    rw [el] at h
    have key : ∀ {a : Addr} {vs : List V}, SqL X.K H1 a vs → Rps X.K ct.ad F1 vs xs → ∃ a' ys, V.ref a = .ref a' ∧ SqL X.K H1 a' ys ∧ ∀ p, H1 p = none → Q (.ref p) (upd H1 p (.lst ys.reverse)) := fun {a vs} h1 k1 => ⟨a, vs, rfl, h1, fun p hp => Tat.ok h _ F1 _ (Same.refl _) (S1.newC hp) ⟨p, rfl, S1.fresh hp ⟨_, upd_same, k1.rev⟩⟩⟩
    cases r1 with
    | lst h1 k1 => cases el; exact key (.inl (.inl (S1.fh _ _ h1))) k1
    | sq h1 k1 => cases el; exact key (S1.fh.seq h1) k1
    | _ => cases el
end PL
end
section
namespace PL
open PySem PySem.Spec PyProof.Rows L2
variable {K : PySem.W.Frag} {ad : Cl → Addr} {ct : CT}
variable {fr : Fr} {F F' H H' : Hp} {σ : L2.St} {ρ : List Sl} {W : WX}
/-! ### a op b op c op d as a test -/
def ch3 (g g' g'' : D → D → Option D) (a b c d : Ev) : M Bool := bnd (dat a) fun x => bnd (dat b) fun y => bnd (opt (g x y)) fun z => match z with
  | .bl true => bnd (dat c) fun u => bnd (opt (g' y u)) fun z2 => (match z2 with
    | .bl true => bnd (dat d) fun v => bnd (opt (g'' u v)) fun z3 => (match z3 with | .bl k => pur k | _ => fai)
    | .bl false => pur false
    | _ => fai)
  | .bl false => pur false
  | _ => fai
theorem pp_tch3 {X : Cx} {a b c d : Expr} {fa fb fc fd : Ev} {pos : Pos} {op op' op'' : CmpOp} {r r' r'' : R2} {g g' g'' : D → D → Option D} (h1 : OpR X (compareOp op) r) (h2 : OpR X (compareOp op') r') (h3 : OpR X (compareOp op'') r'') (O : O2 K ct.ad r g) (O' : O2 K ct.ad r' g') (O'' : O2 K ct.ad r'' g'')
    (ha : PE X a (TP K ct W fa)) (hb : PE X b (TP K ct W fb)) (hc : PE X c (TP K ct W fc)) (hd : PE X d (TP K ct W fd)) (hm : lastMarks [op, op', op''] [b, c, d] = false := by with_unfolding_all rfl) :
    PT X (.Compare a [op, op', op''] [b, c, d] pos) (TB K ct W (ch3 g g' g'' fa fb fc fd)) := (OW.pt_chain3 h1 h2 h3 ha hb hc hd hm).imp fun σ H Q ⟨fr, F, ρ, S, h⟩ => by
  refine Tat.dat h S fun F1 H1 ρ1 x dx s1 S1 r1 h => ?_
  refine Tat.dat h S1 fun F2 H2 ρ2 y dy s2 S2 r2 h => ?_
  obtain ⟨z, ez, h⟩ := h.optb
  refine O S2.fh (r1.mono s2) r2 ez fun v rv => ?_
  cases z with
  | bl k =>
    cases rv
    refine ⟨k, rfl, ?_⟩
    cases k with
    | false => exact Tat.ok (a := false) h _ F2 H2 (Same.refl _) S2 rfl
    | true =>
      refine Tat.dat h S2 fun F3 H3 ρ3 u du s3 S3 r3 h => ?_
      obtain ⟨z2, ez2, h⟩ := h.optb
      refine O' S3.fh (r2.mono s3) r3 ez2 fun v rv => ?_
      cases z2 with
      | bl k2 =>
        cases rv
        refine ⟨k2, rfl, ?_⟩
        cases k2 with
        | false => exact Tat.ok (a := false) h _ F3 H3 (Same.refl _) S3 rfl
        | true =>
          refine Tat.dat h S3 fun F4 H4 ρ4 w dw s4 S4 r4 h => ?_
          obtain ⟨z3, ez3, h⟩ := h.optb
          refine O'' S4.fh (r3.mono s4) r4 ez3 fun v rv => ?_
          cases z3 with
          | bl k3 => cases rv; exact ⟨k3, rfl, Tat.ok (a := k3) h _ F4 H4 (Same.refl _) S4 rfl⟩
          | _ => obtain ⟨_, _, e, _⟩ := h; cases e
      | _ => obtain ⟨_, _, e, _⟩ := h; cases e
  | _ => obtain ⟨_, _, e, _⟩ := h; cases e
/-! ### a class's constant -/
theorem pp_cval {X : Cx} {x f : Str} {p pos : Pos} {d : D} {v : V} (c : Cl) (hm : X.mg x = some (.ref (ct.ad c))) (r : ClX.CRead X.K (ct.ad c) (.type "type")) (hv : ∃ u, PySem.W.findCls X.K (.ref (ct.ad c)) (.type "type") f = some (.val u) ∧ RelV v u) (hg : Gl X x := by rfl) (hdb : (x == ("__debug__" : Str)) = false := by decide)
    (hb : attributeBase (.Name x p) f X.env (eval (.Name x p) X.env) = eval (.Name x p) X.env := by rfl) (hd : d.toV = some v := by rfl) : PE X (.Attribute (.Name x p) f pos) (TP K ct W (vD d)) :=
  (ClX.pe_cval (C8.pe_gc (v := .ref (ct.ad c)) hg ⟨_, hm, rfl⟩ hdb) hb).imp fun σ H Q ⟨fr, F, ρ, S, h⟩ => by
  obtain ⟨u, h1, h2⟩ := hv
  exact ⟨_, _, v, u, rfl, r, ⟨h1, h2⟩, Tat.ok (a := Rv.d d) h v F H (Same.refl _) S (D.toV_rp hd)⟩
/-! ### dicts that change, their keys ints or texts -/
def D.key : D → Option Key | .int i => some (.inl i) | .str s => some (.inr s) | _ => none
theorem Rp.key {F : Hp} {v : V} {d : D} {k : Key} (r : Rp K ad F v d) (h : d.key = some k) : v = kV k := by
  cases r <;> cases h <;> rfl
def dval (kvs : List (Key × D)) (k : Key) : Option D := (kvs.find? fun kv => decide (kv.1 = k)).map (·.2)
def dput (kvs : List (Key × D)) (k : Key) (d : D) : List (Key × D) := if (kvs.any fun kv => decide (kv.1 = k)) = true then kvs.map (fun kv => if kv.1 = k then (kv.1, d) else kv) else kvs ++ [(k, d)]
theorem dval_zip {F : Hp} {k : Key} : ∀ {kvs : List (Key × D)} {vs : List V}, Rps K ad F vs (kvs.map (·.2)) → (dval kvs k = none ∧ valV ((kvs.map (·.1)).zip vs) k = none) ∨ ∃ d v, dval kvs k = some d ∧ valV ((kvs.map (·.1)).zip vs) k = some v ∧ Rp K ad F v d
  | [], _, h => by cases h; exact .inl ⟨rfl, rfl⟩
  | (k0, d0) :: kvs, _, h => by
    rw [List.map_cons] at h
    cases h with
    | cons h t =>
      rename_i v vs
      by_cases e : k0 = k
      · refine .inr ⟨d0, v, ?_, ?_, h⟩
        · simp [dval, e]
        · simp [valV, e]
      · rcases dval_zip (k := k) t with ⟨a, b⟩ | ⟨d, v', a, b, r⟩
        · refine .inl ⟨?_, ?_⟩
          · simpa [dval, e] using a
          · simpa [valV, e] using b
        · refine .inr ⟨d, v', ?_, ?_, r⟩
          · simpa [dval, e] using a
          · simpa [valV, e] using b
theorem any_zip {k : Key} : ∀ {kvs : List (Key × D)} {vs : List V}, vs.length = kvs.length → (((kvs.map (·.1)).zip vs).any fun kv => decide (kv.1 = k)) = kvs.any fun kv => decide (kv.1 = k)
  | [], vs, _ => rfl
  | _ :: _, [], h => by cases h
  | (k0, d0) :: kvs, v :: vs, h => by
    show (decide (k0 = k) || (((kvs.map (·.1)).zip vs).any fun kv => decide (kv.1 = k))) = (decide (k0 = k) || _)
    rw [any_zip (kvs := kvs) (vs := vs) (by simpa using h)]
theorem map_zip {F : Hp} {k : Key} {v : V} {d : D} (r : Rp K ad F v d) : ∀ {kvs : List (Key × D)} {vs : List V}, Rps K ad F vs (kvs.map (·.2)) → ∃ vs', ((kvs.map (·.1)).zip vs).map (fun kv => if kv.1 = k then (kv.1, v) else kv) = ((kvs.map (fun kv => if kv.1 = k then (kv.1, d) else kv)).map (·.1)).zip vs' ∧ Rps K ad F vs' ((kvs.map (fun kv => if kv.1 = k then (kv.1, d) else kv)).map (·.2))
  | [], _, h => by cases h; exact ⟨[], rfl, .nil⟩
  | (k0, d0) :: kvs, _, h => by
    rw [List.map_cons] at h
    cases h with
    | cons h t =>
      rename_i v0 vs
      obtain ⟨vs', a, b⟩ := map_zip (k := k) r t
      by_cases e : k0 = k
      · refine ⟨v :: vs', ?_, ?_⟩
        · simp only [List.map_cons, List.zip_cons_cons, if_pos e]
          rw [← a]
        · simp only [List.map_cons, if_pos e]
          exact .cons r b
      · refine ⟨v0 :: vs', ?_, ?_⟩
        · simp only [List.map_cons, List.zip_cons_cons, if_neg e]
          rw [← a]
        · simp only [List.map_cons, if_neg e]
          exact .cons h b
theorem dput_zip {F : Hp} {k : Key} {v : V} {d : D} (r : Rp K ad F v d) {kvs : List (Key × D)} {vs : List V} (h : Rps K ad F vs (kvs.map (·.2))) : ∃ vs', putK ((kvs.map (·.1)).zip vs) k v = ((dput kvs k d).map (·.1)).zip vs' ∧ Rps K ad F vs' ((dput kvs k d).map (·.2)) := by
  have l : vs.length = kvs.length := by rw [h.len, List.length_map]
  unfold putK dput
  rw [any_zip l]
  split
  · exact map_zip r h
  · refine ⟨vs ++ [v], ?_, ?_⟩
    · rw [List.map_append, List.zip_append (by simp [l])]; rfl
    · rw [List.map_append]; exact h.snoc r
def isK (j : Nat) : Ev := fun ρ => match ρ[j]? with | some (.cel _ (.dK _)) => some (.ok (.d .non), ρ) | _ => none
def getK (j : Nat) (f : List (Key × D) → Option D) : Ev := fun ρ => match ρ[j]? with
  | some (.cel _ (.dK kvs)) => (f kvs).map fun d => (.ok (.d d), ρ)
  | _ => none
/-- d[k], d in slot j -/
def evDGet (j : Nat) (ke : Ev) : Ev := bnd (isK j) fun _ => bnd (dat ke) fun k => getK j fun kvs => k.key.bind (dval kvs)
/-- d.get(k, x) -/
def evDGet2 (j : Nat) (ke de : Ev) : Ev := bnd (isK j) fun _ => bnd (dat ke) fun k => bnd (dat de) fun d => getK j fun kvs => k.key.map fun k => (dval kvs k).getD d
/-- k in d -/
def evDIn (j : Nat) (ke : Ev) : Ev := bnd (dat ke) fun k => getK j fun kvs => k.key.map fun k => .bl (dval kvs k).isSome
/-- d[k] = e -/
def evDPut (j : Nat) (ke e : Ev) : M Fl := bnd (dat e) fun d => bnd (isK j) fun _ => bnd (dat ke) fun k => fun ρ => match ρ[j]? with
  | some (.cel c (.dK kvs)) => (match k.key with
    | some k => if kvs.length < 16777216 then some (.ok .nx, ρ.set j (.cel c (.dK (dput kvs k d)))) else none
    | none => none)
  | _ => none
theorem isK_eq {j : Nat} {r : Ex Rv} {ρ' : List Sl} (e : isK j ρ = some (r, ρ')) (S : Rel K ct fr F H σ ρ) : ∃ p kvs, r = .ok (.d .non) ∧ ρ' = ρ ∧ σ[j]? = some (some (.ref p)) ∧ H p = some (.dK kvs) := by
  unfold isK at e
  split at e
  · rename_i k kvs h
    cases e
    obtain ⟨o, g1, p, a1, a2, a3, a4, a5, vs, a6, a7⟩ := S.slot j _ h
    subst a1
    exact ⟨p, _, rfl, rfl, g1, a6⟩
  · cases e
theorem Tat.isK {δ γ : Type} {R' : Rel3 δ γ} {j : Nat} {k : Rv → M γ} {Q : δ → Hp → Prop} (h : Tat K ct R' W fr F ρ (PL.bnd (PL.isK j) k) σ Q) (S : Rel K ct fr F H σ ρ) :
    ∃ p kvs, σ[j]? = some (some (.ref p)) ∧ H p = some (.dK kvs) ∧ Tat K ct R' W fr F ρ (k (.d .non)) σ Q := by
  obtain ⟨r, ρ', e, q⟩ := h
  unfold PL.bnd at e
  cases em : PL.isK j ρ with
  | none => rw [em] at e; cases e
  | some x =>
    obtain ⟨r1, ρ1⟩ := x
    rw [em] at e
    obtain ⟨p, kvs, rfl, rfl, g1, g2⟩ := isK_eq em S
    exact ⟨p, kvs, g1, g2, r, ρ', e, q⟩
theorem Sat.isK {D : Ends} {j : Nat} {k : Rv → M Fl} (h : Sat K ct W D fr F ρ (PL.bnd (PL.isK j) k)) (S : Rel K ct fr F H σ ρ) :
    ∃ p kvs, σ[j]? = some (some (.ref p)) ∧ H p = some (.dK kvs) ∧ Sat K ct W D fr F ρ (k (.d .non)) := by
  obtain ⟨r, ρ', e, q⟩ := h
  unfold PL.bnd at e
  cases em : PL.isK j ρ with
  | none => rw [em] at e; cases e
  | some x =>
    obtain ⟨r1, ρ1⟩ := x
    rw [em] at e
    obtain ⟨p, kvs, rfl, rfl, g1, g2⟩ := isK_eq em S
    exact ⟨p, kvs, g1, g2, r, ρ', e, q⟩
theorem Tat.getK {j : Nat} {f : List (Key × D) → Option D} {Q : VK} (h : Tat K ct (RV K ct.ad) W fr F ρ (PL.getK j f) σ Q) (S : Rel K ct fr F H σ ρ) {p : Addr} (hp : σ[j]? = some (some (.ref p))) :
    ∃ kvs vs d, H p = some (.dK ((kvs.map (·.1)).zip vs)) ∧ Rps K ct.ad F vs (kvs.map (·.2)) ∧ f kvs = some d ∧ ∀ v, Rp K ct.ad F v d → Q v H := by
  obtain ⟨r, ρ', e, q⟩ := h
  unfold PL.getK at e
  split at e
  · rename_i k kvs h
    obtain ⟨d, e1, e2⟩ := map_some e
    cases e2
    obtain ⟨o, g1, p', a1, a2, a3, a4, a5, vs, a6, a7⟩ := S.slot j _ h
    subst a1
    rw [hp] at g1
    cases g1
    exact ⟨kvs, vs, d, a6, a7, e1, fun v r => q v F H (Same.refl _) S r⟩
  · cases e
section
variable {X : Cx} {x : Str} {p pos : Pos} {ke de : Expr} {fk fd : Ev}
theorem pp_dnew : PE X (.Dict [] [] pos) (TP K ct W (pur (.c (.dK [])))) := pe_dnewK.imp fun σ H Q ⟨fr, F, ρ, S, h⟩ => fun p hp => Tat.ok h _ F _ (Same.refl _) (S.newC hp) ⟨p, rfl, S.fresh hp ⟨[], upd_same, .nil⟩⟩
theorem pp_dget (j : Nat) (hu : X.A.units + 1 < cLine) (ho : PE X (.Name x p) (tVar j)) (hk : PE X ke (TP K ct W fk)) (hs : NoSl ke) : PE X (.Subscript (.Name x p) ke pos) (TP K ct W (evDGet j fk)) := (pe_dget hu ho hk hs).imp fun σ H Q ⟨fr, F, ρ, S, h⟩ => by
  obtain ⟨p, kvs0, h1, h2, h⟩ := Tat.isK h S
  refine ⟨_, h1, ?_⟩
  refine Tat.dat h S fun F1 H1 ρ1 y dk s1 S1 r1 h => ?_
  obtain ⟨kvs, vs, d, g1, g2, g3, q⟩ := Tat.getK h S1 h1
  cases ek : dk.key with
  | none => rw [ek] at g3; cases g3
  | some k =>
    rw [ek] at g3
    have g3 : dval kvs k = some d := g3
    rcases dval_zip (k := k) g2 with ⟨a, _⟩ | ⟨d', v, a, b, r⟩
    · rw [g3] at a; cases a
    · rw [g3] at a
      cases a
      refine ⟨p, v, rfl, ?_, q v r⟩
      rw [r1.key ek, ← b]
      exact DGet.k g1
theorem pp_dget2 {apos cpos : Pos} (j : Nat) (hu : X.A.units + 1 < cLine) (ho : PE X (.Name x p) (tVar j)) (hk : PE X ke (TP K ct W fk)) (hd : PE X de (TP K ct W fd)) (m : M2 X (.Name x p) "get" apos ke de cpos) : PE X (.Call (.Attribute (.Name x p) "get" apos) [ke, de] [] cpos) (TP K ct W (evDGet2 j fk fd)) := (L2.pe_dget2 hu ho hk hd m).imp fun σ H Q ⟨fr, F, ρ, S, h⟩ => by
  obtain ⟨p, kvs0, h1, h2, h⟩ := Tat.isK h S
  refine ⟨_, h1, p, rfl, .inl ⟨kvs0, .inl h2⟩, ?_⟩
  refine Tat.dat h S fun F1 H1 ρ1 y dk s1 S1 r1 h => ?_
  refine Tat.dat h S1 fun F2 H2 ρ2 z dz s2 S2 r2 h => ?_
  obtain ⟨kvs, vs, d, g1, g2, g3, q⟩ := Tat.getK h S2 h1
  obtain ⟨k, ek, e⟩ := map_some g3
  rcases dval_zip (k := k) g2 with ⟨a, b⟩ | ⟨d', v, a, b, r⟩
  · rw [a] at e
    subst e
    refine ⟨none, ?_, q z r2⟩
    rw [r1.key ek, ← b]
    exact DGet.k g1
  · rw [a] at e
    subst e
    refine ⟨some v, ?_, q v r⟩
    rw [r1.key ek, ← b]
    exact DGet.k g1
theorem s_dput {e : Expr} {fe : Ev} {pos' : Pos} (j : Nat) (hu : X.A.units + 1 < cLine) (ho : PE X (.Name x p) (tVar j)) (hk : PE X ke (TP K ct W fk)) (he : PE X e (TP K ct W fe)) (hs : swapsWith e (some (.Subscript (.Name x p) ke pos')) pos.line X.env = pure false := by rfl) :
    PS X (.Assign [.Subscript (.Name x p) ke pos'] e pos) (TSt K ct W (evDPut j fk fe)) := (ps_dput hu ho hk he hs).imp fun D σ H ⟨fr, F, ρ, S, h⟩ => by
  refine h.dat S fun F1 H1 ρ1 v d s1 S1 r1 h => ?_
  obtain ⟨p, kvs0, h1, h2, h⟩ := Sat.isK h S1
  refine ⟨_, h1, ?_⟩
  refine h.dat S1 fun F2 H2 ρ2 y dk s2 S2 r2 h => ?_
  obtain ⟨r0, ρ', e, q⟩ := h
  dsimp only at e
  cases e2 : ρ2[j]? with
  | none => rw [e2] at e; cases e
  | some sl =>
    rw [e2] at e
    cases sl with
    | cel c cc =>
      cases cc with
      | dK kvs =>
        dsimp only at e
        cases ek : dk.key with
        | none => rw [ek] at e; cases e
        | some k =>
          rw [ek] at e
          dsimp only at e
          split at e
          · rename_i sz
            cases e
            obtain ⟨o, g1, p', a1, a2, a3, a4, a5, vs, a6, a7⟩ := S2.slot j _ e2
            subst a1
            rw [h1] at g1
            cases g1
            obtain ⟨vs', b1, b2⟩ := dput_zip (k := k) (r1.mono s2) a7
            have l : vs.length = kvs.length := by rw [a7.len, List.length_map]
            refine ⟨p, _, rfl, ?_, q σ F2 _ (Same.refl _) (S2.updC (o := .dK (putK ((kvs.map (·.1)).zip vs) k v)) e2 h1 rfl ⟨vs', by rw [upd_same, b1], b2⟩)⟩
            rw [r2.key ek]
            exact DPut.k a6 (by rw [List.length_zip, List.length_map, l, Nat.min_self]; exact sz)
          · cases e
      | _ => cases e
    | _ => cases e
/-- sorted(d, reverse=True), the keys ints -/
def keysI : List (Key × D) → Option (List Int)
  | [] => some []
  | (.inl i, _) :: r => (keysI r).map (i :: ·)
  | _ => none
theorem keysI_map : ∀ {kvs : List (Key × D)} {ks : List Int}, keysI kvs = some ks → kvs.map (·.1) = ks.map Sum.inl
  | [], _, h => by cases h; rfl
  | (.inl i, d) :: r, _, h => by
    have h : (keysI r).map (i :: ·) = some _ := h
    obtain ⟨ks, e1, e2⟩ := map_some h
    subst e2
    rw [List.map_cons, List.map_cons, keysI_map e1]
  | (.inr _, d) :: r, _, h => by cases h
def insG (x : Int) : List Int → List Int
  | [] => [x]
  | y :: r => if y ≤ x then x :: y :: r else y :: insG x r
/-- from the greatest down -/
def down : List Int → List Int
  | [] => []
  | x :: r => insG x (down r)
theorem insG_perm (x : Int) : ∀ r : List Int, (insG x r).Perm (x :: r)
  | [] => .refl _
  | y :: r => by
    unfold insG
    split
    · exact .refl _
    · exact ((insG_perm x r).cons y).trans (.swap x y r)
theorem down_perm : ∀ r : List Int, (down r).Perm r
  | [] => .refl _
  | x :: r => (insG_perm x (down r)).trans ((down_perm r).cons x)
theorem insG_srt (x : Int) : ∀ {r : List Int}, r.Pairwise (· ≥ ·) → (insG x r).Pairwise (· ≥ ·)
  | [], _ => List.pairwise_singleton _ _
  | y :: r, h => by
    unfold insG
    (obtain ⟨h1, h2⟩ := List.pairwise_cons.mp h)
    split
    · rename_i e
      refine List.pairwise_cons.mpr ⟨fun z hz => ?_, h⟩
      (rcases List.mem_cons.mp hz with rfl | hz)
      · exact e
      · have := h1 z hz; show z ≤ x; have : z ≤ y := this; omega
    · rename_i e
      refine List.pairwise_cons.mpr ⟨fun z hz => ?_, insG_srt x h2⟩
      rcases List.mem_cons.mp ((insG_perm x r).mem_iff.mp hz) with rfl | hz
      · show z ≤ y; omega
      · exact h1 z hz
theorem down_srt : ∀ r : List Int, (down r).Pairwise (· ≥ ·)
  | [] => .nil
  | x :: r => insG_srt x (down_srt r)
theorem srt_one : ∀ {xs ys : List Int}, xs.Perm ys → xs.Pairwise (· ≥ ·) → ys.Pairwise (· ≥ ·) → xs = ys
  | [], ys, p, _, _ => (List.Perm.nil_eq p)
  | x :: xs, [], p, _, _ => by have := p.length_eq; cases this
  | x :: xs, y :: ys, p, h, k => by
    (obtain ⟨h1, h2⟩ := List.pairwise_cons.mp h)
    obtain ⟨k1, k2⟩ := List.pairwise_cons.mp k
    have a : x ≤ y := by
      rcases List.mem_cons.mp (p.mem_iff.mp List.mem_cons_self) with rfl | z
      · exact Int.le_refl _
      · exact k1 x z
    have b : y ≤ x := by
      rcases List.mem_cons.mp (p.mem_iff.mpr List.mem_cons_self) with rfl | z
      · exact Int.le_refl _
      · exact h1 y z
    have e : x = y := Int.le_antisymm a b
    subst e
    rw [srt_one (List.Perm.cons_inv p) h2 k2]
def evSortDR (j : Nat) : Ev := fun ρ => match ρ[j]? with
  | some (.cel _ (.dK kvs)) => (keysI kvs).map fun ks => (.ok (.c (.lst ((down ks).map D.int))), ρ)
  | _ => none
theorem Rps.ofInts {F : Hp} : ∀ ns : List Int, Rps K ad F (ns.map V.int) (ns.map D.int)
  | [] => .nil
  | n :: ns => .cons (.int n) (Rps.ofInts ns)
theorem pp_sortDR {q p2 pos : Pos} {kk : Nat} {nm : Option Str} {kp : Pos} (j : Nat) (hc : X.calm = true) (hg : Gl X "sorted") (hm : X.mg "sorted" = none) (ho : PE X (.Name x p2) (tVar j))
    (he : backTo pos (starEach [.Name x p2] X.env) = (false, eval (.Name x p2) X.env) :: backTo pos (starEach [] X.env) := by rfl) (hpl : (backTo pos (starEach [.Name x p2] X.env)).any (·.1) = false := by rfl)
    (hst : starEach [.Name x p2] X.env = (false, eval (.Name x p2) X.env) :: starEach [] X.env := by rfl)
    (hall : (backToKw pos (keywordEach [⟨nm, .Constant (.bool true) kk q, kp⟩] X.env)).all (·.1.isSome) = true := by rfl) (hnone : (backToKw pos (keywordEach [⟨nm, .Constant (.bool true) kk q, kp⟩] X.env)).any (·.1.isNone) = false := by rfl) (hks : (backToKw pos (keywordEach [⟨nm, .Constant (.bool true) kk q, kp⟩] X.env)).filterMap (·.1) = [("reverse" : Str)] := by rfl) :
    PE X (.Call (.Name "sorted" p) [.Name x p2] [⟨nm, .Constant (.bool true) kk q, kp⟩] pos) (TP K ct W (evSortDR j)) :=
  (pe_callBK (x := "sorted") (OW.c_sortDR hc) hg hm (by decide +kernel) (pa_cons ho pa_nil hst) (pk_cons pe_bl pk_nil) (by decide) (by decide) he hpl hall hnone hks).imp fun σ H Q ⟨fr, F, ρ, S, r, ρ', e, q⟩ => by
  unfold evSortDR at e
  split at e
  · rename_i k kvs h
    obtain ⟨ks, e1, e2⟩ := map_some e
    cases e2
    obtain ⟨o, g1, p', a1, a2, a3, a4, a5, vs, a6, a7⟩ := S.slot j _ h
    subst a1
    have l : vs.length = kvs.length := by rw [a7.len, List.length_map]
    refine ⟨_, g1, p', _, ks, rfl, rfl, .inl a6, ?_, fun ys p hp hs hn => ?_⟩
    · rw [← keysI_map e1, List.map_fst_zip (by simp [l])]
    · have : ys = down ks := srt_one (hp.trans (down_perm ks).symm) hs (down_srt ks)
      subst this
      exact q _ F _ (Same.refl _) (S.newC hn) ⟨p, rfl, S.fresh hn ⟨_, upd_same, Rps.ofInts _⟩⟩
  · cases e
end
/-! ### max(.., default=n) -/
def gMaxD (n : Int) : List D → Option D | [d] => (lints d).map fun ns => .int (OW.maxL n ns) | _ => none
def evMaxD (es : List DE) (de : Ev) : Ev := bnd (evDs es) fun ds => bnd (dat de) fun d => match d with | .int n => opt ((gMaxD n ds).map Rv.d) | _ => fai
theorem pp_maxD {X : Cx} {e de : Expr} {es : List DE} {fd : Ev} {p pos kp : Pos} {nm : Option Str} (hc : X.calm = true) (hu : X.A.units + 64 < cLine) (eK : X.K = K) (hg : Gl X "max") (hm : X.mg "max" = none) (ha : PA X [e] (TD K ct W (evDs es))) (hd : PE X de (TP K ct W fd))
    (he : backTo pos (starEach [e] X.env) = (false, eval e X.env) :: backTo pos (starEach [] X.env) := by rfl) (hpl : (backTo pos (starEach [e] X.env)).any (·.1) = false := by rfl)
    (hall : (backToKw pos (keywordEach [⟨nm, de, kp⟩] X.env)).all (·.1.isSome) = true := by rfl) (hnone : (backToKw pos (keywordEach [⟨nm, de, kp⟩] X.env)).any (·.1.isNone) = false := by rfl) (hks : (backToKw pos (keywordEach [⟨nm, de, kp⟩] X.env)).filterMap (·.1) = [("default" : Str)] := by rfl) :
    PE X (.Call (.Name "max" p) [e] [⟨nm, de, kp⟩] pos) (TP K ct W (evMaxD es fd)) := by
  subst eK
  refine (pe_callBK (x := "max") (OW.c_maxD hc hu) hg hm (by decide +kernel) ha (pk_cons hd pk_nil) (by decide) (by decide) he hpl hall hnone hks).imp fun σ H Q ⟨fr, F, ρ, S, h⟩ => ?_
  refine Tat.bnd h S fun F1 H1 ρ1 vs ds s1 S1 r1 h => ?_
  refine Tat.dat h S1 fun F2 H2 ρ2 v d s2 S2 r2 h => ?_
  cases d with
  | int n =>
    cases r2
    obtain ⟨r, e, q⟩ := h.opt
    obtain ⟨z, e1, e2⟩ := map_some e
    subst e2
    unfold gMaxD at e1
    split at e1
    · rename_i d
      obtain ⟨ns, g1, g2⟩ := map_some e1
      subst g2
      obtain ⟨u, rfl, ru⟩ := one_i r1
      obtain ⟨xs, k1, k2⟩ := lints_i g1
      obtain ⟨a, rfl, hs⟩ := (ru.mono s2).lints S2.fh k1 k2
      exact ⟨a, ns, n, rfl, rfl, hs, q _ F2 H2 (Same.refl _) S2 (Rp.int _)⟩
    · cases e1
  | _ => obtain ⟨_, _, e, _⟩ := h; cases e
end PL
namespace PL
open PySem PySem.Spec PyProof.Rows L2
theorem fn_none {P : Program} {w : World} {K : PySem.W.Frag} {ad : Cl → Addr} {mg : Str → Option Value} {base : Heap} {CX : CXT} {k n : Nat} {f : Addr} {fd : FuncData} {ps : List Str} : FnOk P w K mg base CX k f fd ps (spP K ad n fun _ => none) :=
  have z : ∀ {vs : List V} {H : Hp} {Q : VK} {E : XK}, ¬ spP K ad n (fun _ => none) vs H Q E := fun {vs H Q E} ⟨_, _, _, _, _, _, _, _, _, e, _⟩ => by cases e
  ⟨fun _ _ _ _ h => (z h).elim, fun _ _ _ _ _ _ _ _ _ _ _ _ _ h => (z h).elim⟩
end PL
end
section
namespace PL
open PySem PySem.Spec PyProof.Rows L2
variable {K : PySem.W.Frag} {ad : Cl → Addr} {ct : CT}
variable {fr : Fr} {F F' H H' : Hp} {σ : L2.St} {ρ : List Sl} {W : WX}
/-! ### x in y -/
def dInB : D → D → Option Bool
  | .int i, e => (e.items.bind D.ints).map fun ns => ns.contains i
  | .str s, .str z => match s.cps.toList with | [c] => some (decide (c ∈ z.cps.toList)) | _ => none
  | .str s, e => (e.items.bind D.strs).map fun ys => ys.contains s
  | _, _ => none
def dIn (d e : D) : Option D := (dInB d e).map .bl
def dNotIn (d e : D) : Option D := (dInB d e).map fun b => .bl (!b)
def rSign (neg : Bool) : R2 := fun x y H Q => ∃ (c : Nat) (z : Str), x = .str ⟨#[c]⟩ ∧ y = .str z ∧ Q (.bl (if neg then !decide (c ∈ z.cps.toList) else decide (c ∈ z.cps.toList))) H
def rInB (K : PySem.W.Frag) (neg : Bool) : R2 := fun x y H Q => rIn K neg x y H Q ∨ rSign neg x y H Q
theorem op_inB {X : Cx} (eK : X.K = K) : OpR X (compareOp .In) (rInB K false) := by
  subst eK
  exact fun pins s σ H x y v u Q I rx ry h => h.elim (op_in_seq pins s σ H x y v u Q I rx ry) (op_in_sign pins s σ H x y v u Q I rx ry)
theorem op_notInB {X : Cx} (eK : X.K = K) : OpR X (compareOp .NotIn) (rInB K true) := by
  subst eK
  exact fun pins s σ H x y v u Q I rx ry h => h.elim (op_notIn_seq pins s σ H x y v u Q I rx ry) (op_notIn_sign pins s σ H x y v u Q I rx ry)
theorem inV_ints (i : Int) : ∀ ns : List Int, inV (.int i) (ns.map V.int) = ns.contains i
  | [] => rfl
  | n :: ns => by
    rw [List.contains_cons, ← inV_ints i ns]
    show (eqV (.int n) (.int i) || _) = _
    congr 1
    show decide (n = i) = _
    by_cases e : n = i
    · simp [e]
    · simp [e, Ne.symm e]
theorem inV_strs (s : Str) : ∀ ns : List Str, inV (.str s) (ns.map V.str) = ns.contains s
  | [] => rfl
  | n :: ns => by
    rw [List.contains_cons, ← inV_strs s ns]
    show (eqV (.str n) (.str s) || _) = _
    congr 1
    show decide (n = s) = _
    by_cases e : n = s
    · simp [e]
    · simp [e, Ne.symm e]
theorem in_cases {F H : Hp} {x y : V} {d e : D} {b : Bool} {neg : Bool} {Q : VK} (s : Same F H) (r1 : Rp K ct.ad F x d) (r2 : Rp K ct.ad F y e) (h : dInB d e = some b) (q : Q (.bl (if neg then !b else b)) H) : rInB K neg x y H Q := by
  have go : ∀ {xs : List D}, e.items = some xs → ∃ p vs, y = .ref p ∧ (SqL K H p vs ∨ SqT K H p vs) ∧ Rps K ct.ad F vs xs := fun {xs} z => r2.seq s z
  cases d with
  | int i =>
    cases r1
    obtain ⟨ns, e1, e2⟩ := map_some (show (e.items.bind D.ints).map (fun ns => ns.contains i) = some b from h)
    cases ei : e.items with
    | none => rw [ei] at e1; cases e1
    | some xs =>
      rw [ei] at e1
      obtain ⟨p, vs, rfl, hs, k⟩ := go ei
      have := D.ints_eq (show D.ints xs = some ns from e1)
      subst this
      have := k.ints
      subst this
      refine .inl ⟨p, _, rfl, hs, rfl, by simp [flatV], ?_⟩
      rw [inV_ints, e2]
      exact q
  | str t =>
    cases r1
    cases e with
    | str z =>
      cases r2
      have h : (match t.cps.toList with | [c] => some (decide (c ∈ z.cps.toList)) | _ => none) = some b := h
      split at h
      · rename_i c hc
        cases h
        refine .inr ⟨c, z, ?_, rfl, q⟩
        have : t.cps = #[c] := Array.toList_inj.mp hc
        cases t
        simp only at this
        subst this
        rfl
      · cases h
    | tup xs =>
      obtain ⟨ns, e1, e2⟩ := map_some (show ((some xs).bind D.strs).map (fun ys => ys.contains t) = some b from h)
      obtain ⟨p, vs, rfl, hs, k⟩ := go rfl
      have := D.strs_eq (show D.strs xs = some ns from e1)
      subst this
      have := k.strs
      subst this
      refine .inl ⟨p, _, rfl, hs, rfl, by simp [flatV], ?_⟩
      rw [inV_strs, e2]
      exact q
    | lst xs =>
      obtain ⟨ns, e1, e2⟩ := map_some (show ((some xs).bind D.strs).map (fun ys => ys.contains t) = some b from h)
      obtain ⟨p, vs, rfl, hs, k⟩ := go rfl
      have := D.strs_eq (show D.strs xs = some ns from e1)
      subst this
      have := k.strs
      subst this
      refine .inl ⟨p, _, rfl, hs, rfl, by simp [flatV], ?_⟩
      rw [inV_strs, e2]
      exact q
    | sq xs =>
      obtain ⟨ns, e1, e2⟩ := map_some (show ((some xs).bind D.strs).map (fun ys => ys.contains t) = some b from h)
      obtain ⟨p, vs, rfl, hs, k⟩ := go rfl
      have := D.strs_eq (show D.strs xs = some ns from e1)
      subst this
      have := k.strs
      subst this
      refine .inl ⟨p, _, rfl, hs, rfl, by simp [flatV], ?_⟩
      rw [inV_strs, e2]
      exact q
    | _ => cases h
  | _ => cases h
theorem o_in : O2 K ct.ad (rInB K false) dIn := by
  intro F H x y d e z Q s r1 r2 h q
  obtain ⟨b, e1, rfl⟩ := map_some h
  exact in_cases (ct := ct) s r1 r2 e1 (q _ (Rp.bl _))
theorem o_notIn : O2 K ct.ad (rInB K true) dNotIn := by
  intro F H x y d e z Q s r1 r2 h q
  obtain ⟨b, e1, rfl⟩ := map_some h
  exact in_cases (ct := ct) (neg := true) s r1 r2 e1 (q _ (Rp.bl _))
end PL
namespace PL
open PySem PySem.Spec PyProof.Rows L2
/-- what the top asks of the law's def -/
def spLaw (K : PySem.W.Frag) : Sp := fun vs H Q _ => ∃ (a : Addr) (ns : List Int), vs = [.ref a] ∧ SqL K H a (ns.map V.int) ∧ ns.length ≤ 63 ∧ ∀ H', Q (.bl true) H'
theorem spLaw_of {K : PySem.W.Frag} {ad : Cl → Addr} {G : Fn} (h : ∀ ns : List Int, ns.length ≤ 63 → ∃ ρ, G [.dat (.sq (ns.map D.int))] = some (.ok (.d (.bl true)), ρ)) : ∀ vs H Q E, spLaw K vs H Q E → spP K ad 1 G vs H Q E := by
  rintro vs H Q E ⟨a, ns, rfl, hs, hl, q⟩
  obtain ⟨ρ, e⟩ := h ns hl
  have S : Rel K (cx ad) ⟨H, H, fun _ => none⟩ H H ([V.ref a].map some) [.dat (.sq (ns.map D.int))] := by
    refine ⟨rfl, Same.refl _, fun i s z => ?_, fun i j k c k' c' p z => ?_, Same.refl _, fun b _ z => z, fun i p z => by cases z⟩
    · cases i with
      | zero =>
        cases z
        exact ⟨_, rfl, _, rfl, .sq hs (Rps.ofInts ns)⟩
      | succ i => simp at z
    · cases i with
      | zero => cases z
      | succ i => simp at z
  refine ⟨rfl, _, H, _, S, fun _ _ => rfl, rfl, _, ρ, e, fun v F' H' s S' r => ?_⟩
  cases r
  exact q H'
end PL
end
section
namespace PL
open PySem PySem.Spec PyProof.Rows L2
variable {K : PySem.W.Frag} {ad : Cl → Addr} {ct : CT}
variable {fr : Fr} {F F' H H' : Hp} {σ : L2.St} {ρ : List Sl} {W : WX}
/-! ### a new cell handed straight to a def -/
/-- the frame that holds fast what stands at p -/
def Fr.hold (fr : Fr) (p : Addr) (o : HO) : Fr := { P := fun b => if b = p then some o else fr.P b, F0 := fun b => if b = p then none else fr.F0 b, pa := fr.pa }
theorem SlR.refr {fr fr' : Fr} {i : Nat} {o : Option V} {s : Sl} (h : SlR K ct fr F H i o s) (ep : fr'.pa = fr.pa) (eP : ∀ p, o = some (.ref p) → (∃ k c, s = .cel k c) → fr.P p = none → fr'.P p = none) : SlR K ct fr' F H i o s := by
  cases s with
  | un => exact h
  | dat d => exact h
  | cel k c =>
    obtain ⟨p, e, h1, h2, h3, h4, h5⟩ := h
    exact ⟨p, e, h1, eP p e ⟨k, c, rfl⟩ h2, by rw [ep]; exact h3, by rw [ep]; exact h4, h5⟩
  | exn c pl => exact h
theorem Rel.hold {p : Addr} {c : CC} {o : HO} (S : Rel K ct fr F H σ ρ) (f : Fresh K ct.ad fr F H σ ρ p c) (ho : H p = some o) : Rel K ct (fr.hold p o) F H σ ρ := by
  obtain ⟨f1, f2, f3, f4, f5⟩ := f
  refine ⟨S.len, S.fh, fun i s e => ?_, S.dis, fun b x e => ?_, fun b hb h0 => ?_, S.pcs⟩
  · obtain ⟨u, e1, r⟩ := S.slot i s e
    refine ⟨u, e1, SlR.refr r rfl fun q eq ⟨k, c', es⟩ hq => ?_⟩
    subst es
    have ne : q ≠ p := fun z => f5 i k c' e (by rw [e1, eq, z])
    show (if q = p then some o else fr.P q) = none
    rw [if_neg ne]; exact hq
  · have e : (if b = p then some o else fr.P b) = some x := e
    by_cases z : b = p
    · rw [if_pos z] at e; cases e; rw [z]; exact ho
    · rw [if_neg z] at e; exact S.keep b x e
  · by_cases z : b = p
    · rw [z]; exact f1
    · refine S.fro b (fun y => hb ?_) ?_
      · show (if b = p then some o else fr.P b) = none
        rw [if_neg z]; exact y
      · have h0 : (if b = p then none else fr.F0 b) = none := h0
        rw [if_neg z] at h0; exact h0
theorem Rel.unhold {p : Addr} {o : HO} (S : Rel K ct (fr.hold p o) F H σ ρ) (hp : fr.P p = none) : Rel K ct fr F H σ ρ := by
  refine ⟨S.len, S.fh, fun i s e => ?_, S.dis, fun b x e => ?_, fun b hb h0 => ?_, S.pcs⟩
  · obtain ⟨u, e1, r⟩ := S.slot i s e
    refine ⟨u, e1, SlR.refr r rfl fun q eq ⟨k, c', es⟩ hq => ?_⟩
    have hq : (if q = p then some o else fr.P q) = none := hq
    by_cases z : q = p
    · rw [if_pos z] at hq; cases hq
    · rw [if_neg z] at hq; exact hq
  · have z : b ≠ p := fun z => by rw [z, hp] at e; cases e
    refine S.keep b x ?_
    show (if b = p then some o else fr.P b) = some x
    rw [if_neg z]; exact e
  · have z : b ≠ p := fun z => hb (by rw [z]; exact hp)
    refine S.fro b (fun y => hb ?_) ?_
    · have y : (if b = p then some o else fr.P b) = none := y
      rw [if_neg z] at y; exact y
    · show (if b = p then none else fr.F0 b) = none
      rw [if_neg z]; exact h0
theorem Rel.heldF {p : Addr} {c : CC} {o : HO} {F0 H0 : Hp} {σ0 : L2.St} {ρ0 : List Sl} (S : Rel K ct (fr.hold p o) F H σ ρ) (f : Fresh K ct.ad fr F0 H0 σ0 ρ0 p c) (ho : H0 p = some o) (s : Same F0 F) : Fresh K ct.ad fr F H σ ρ p c := by
  obtain ⟨f1, f2, f3, f4, f5⟩ := f
  have at_p : (fr.hold p o).P p = some o := if_pos rfl
  refine ⟨S.fro p (by rw [at_p]; simp) (if_pos rfl), f2, f3, f4.keep s (by rw [ho]; exact S.keep p o at_p), fun i k c' e z => ?_⟩
  obtain ⟨u, e1, r⟩ := S.slot i _ e
  obtain ⟨q, eq, _, h2, _⟩ := r
  rw [e1, eq] at z
  injection z with z; injection z with z; injection z with z
  rw [z, at_p] at h2; cases h2
theorem Fresh.pop {p q : Addr} {c : CC} (h : Fresh K ct.ad fr F H (σ ++ [some (.ref q)]) ρ p c) : Fresh K ct.ad fr F H σ (ρ.take σ.length) p c := by
  obtain ⟨f1, f2, f3, f4, f5⟩ := h
  refine ⟨f1, f2, f3, f4, fun i k c' e z => ?_⟩
  rw [List.getElem?_take] at e
  split at e
  · rename_i l
    exact f5 i k c' e (by rw [List.getElem?_append_left l]; exact z)
  · cases e
/-- .. the call itself: the cell stands behind the slots while it runs -/
def callN (n : Nat) (G : Fn) (c : CC) (ar : List Ar) : Ev := fun ρ => match callG n G (.c ρ.length :: ar) (ρ ++ [.cel .own c]) with
  | some (r, ρ1) => some (r, ρ1.take ρ.length)
  | none => none
def evCallN (n : Nat) (G : Fn) (m : Ev) (as : List AE) (ds : List D := []) : Ev := bnd m fun r => match r with
  | .c c => bnd (evAs as) fun ar => callN n G c (ar ++ ds.map .d)
  | .d _ => fai
def evCallN0 (n : Nat) (G : Fn) (m : Ev) (as : List AE) (ds : List D := []) : Ev := bnd m fun r => match r with
  | .c c => bnd (evAs as) fun ar => noEr (callN n G c (ar ++ ds.map .d))
  | .d _ => fai
theorem Tat.callN {n : Nat} {G : Fn} {p : Addr} {c : CC} {vs : List V} {ar : List Ar} {Q : VK} {E : XK} (h : Tat K ct (RV K ct.ad) W fr F ρ (PL.callN n G c ar) σ Q) (S : Rel K ct fr F H σ ρ) (f : Fresh K ct.ad fr F H σ ρ p c) (r : RAs K ct.ad F σ vs ar) (hE : ∀ cls d H', W cls d σ H' → E cls d H') : spP K ct.ad n G (.ref p :: vs) H Q E := by
  have S1 := S.push f
  have l := S.len
  have np : fr.pa σ.length = none := by
    cases z : fr.pa σ.length with
    | none => rfl
    | some q =>
      obtain ⟨k1, c1, h1, h2⟩ := S.pcs _ q z
      have := (List.getElem?_eq_some_iff.mp h1).1
      omega
  have last : (σ ++ [some (V.ref p)])[ρ.length]? = some (some (V.ref p)) := by rw [← l]; simp
  refine Tat.call (W := fun cls d _ H' => W cls d σ H') (ar := .c ρ.length :: ar) (fr := fr) (F := F) (ρ := ρ ++ [.cel .own c]) (σ := σ ++ [some (.ref p)]) ?_ S1 (RAs.cons (show RA1 K ct.ad F (σ ++ [some (V.ref p)]) (.ref p) (.c ρ.length) from last) (RAs.push (o := some (V.ref p)) r)) hE
  obtain ⟨r0, ρ0, e, q⟩ := h
  unfold PL.callN at e
  cases ec : callG n G (.c ρ.length :: ar) (ρ ++ [.cel .own c]) with
  | none => rw [ec] at e; cases e
  | some y =>
    obtain ⟨ry, ρ1⟩ := y
    rw [ec] at e
    cases e
    refine ⟨r0, ρ1, ec, ?_⟩
    rw [← l] at q
    cases r0 with
    | er c' pl => exact fun d F' H' s' S' pr => q d F' H' s' (S'.pop np) pr
    | ok rv => exact fun v F' H' s' S' rr => q v F' H' s' (S'.pop np) (by
        cases rv with
        | d d => exact rr
        | c c' => obtain ⟨x, ex, fx⟩ := rr; exact ⟨x, ex, fx.pop⟩)
/-- the other arguments, while the cell is held fast -/
theorem Tat.held {β : Type} {R' : Rel3 β Rv} {p : Addr} {c : CC} {as : List AE} {k : List Ar → Ev} {Q : β → Hp → Prop} {Q1 : List V → Hp → Prop} (h : Tat K ct R' W fr F ρ (PL.bnd (evAs as) k) σ Q) (S : Rel K ct fr F H σ ρ) (f : Fresh K ct.ad fr F H σ ρ p c)
    (hq : ∀ F1 H1 ρ1 vs ar, Same F F1 → Rel K ct fr F1 H1 σ ρ1 → Fresh K ct.ad fr F1 H1 σ ρ1 p c → RAs K ct.ad F1 σ vs ar → Tat K ct R' W fr F1 ρ1 (k ar) σ Q → Q1 vs H1) : TAr K ct W (evAs as) σ H Q1 := by
  obtain ⟨o, ho⟩ := f.2.2.2.1.at
  have hp := f.2.1
  refine ⟨fr.hold p o, F, ρ, S.hold f ho, ?_⟩
  obtain ⟨r, ρ', e, q⟩ := h
  unfold PL.bnd at e
  cases em : evAs as ρ with
  | none => rw [em] at e; cases e
  | some x =>
    obtain ⟨r1, ρ1⟩ := x
    rw [em] at e
    refine ⟨r1, ρ1, em, ?_⟩
    cases r1 with
    | er c' pl =>
      cases e
      exact fun d F1 H1 s1 S1 pr => q d F1 H1 s1 (S1.unhold hp) pr
    | ok ar =>
      intro vs F1 H1 s1 S1 rr
      refine hq F1 H1 ρ1 vs ar s1 (S1.unhold hp) (S1.heldF f ho s1) rr ⟨r, ρ', e, ?_⟩
      cases r with
      | ok a => exact fun v F2 H2 s2 S2 rr => q v F2 H2 (s1.trans s2) S2 rr
      | er c' pl => exact fun d F2 H2 s2 S2 rr => q d F2 H2 (s1.trans s2) S2 rr
section
variable {X : Cx} {CX : CXT} {k : Nat} {f : Addr} {fd : FuncData} {ps : List Str} {x : Str} {p pos : Pos} {e : Expr} {es : List Expr} {n : Nat} {G : Fn} {m : Ev} {as : List AE} {dvs : List V} {dds : List D} {ds : List Value}
theorem pp_callN (Fn : FnOk X.prog X.w X.K X.mg X.base CX k f fd ps (spP K ct.ad n G)) (hr : Room k X.A) (hg : Gl X x) (hm : X.mg x = some (.ref f)) (hk : PySem.W.keepIn X.K (.ref f) = true) (hb : Binds X.K fd ps ds) (hd : Vals dvs ds) (hx : Passes CX X E0)
    (h1 : PE X e (TP K ct W m)) (ha : PA X es (TAr K ct W (evAs as))) (hdf : Dfs dvs dds) (hdb : (x == ("__debug__" : Str)) = false := by decide) (he : starEach (e :: es) X.env = (false, eval e X.env) :: starEach es X.env := by rfl) (hpl : (backTo pos (starEach es X.env)).any (·.1) = false := by rfl) :
    PE X (.Call (.Name x p) (e :: es) [] pos) (TP K ct W (evCallN0 n G m as dds)) := (pe_call Fn hr hg hm hk hb hd hx (pa_cons h1 ha he) hdb he hpl).imp fun σ H Q h => by
  obtain ⟨fr, F, ρ, S, h⟩ := h
  refine Tat.bnd h S fun F1 H1 ρ1 v r s1 S1 r1 h => ?_
  cases r with
  | d d => obtain ⟨_, _, e, _⟩ := h; cases e
  | c c =>
    obtain ⟨q, rfl, fq⟩ := r1
    refine Tat.held h S1 fq fun F2 H2 ρ2 vs ar s2 S2 f2 r2 h => ?_
    exact Tat.callN (W := fun _ _ _ _ => False) h.noEr S2 f2 (RAs.dfs hdf r2) fun _ _ _ z => z
theorem pp_callNS (Fn : FnOk X.prog X.w X.K X.mg X.base (L2.CX X.prog X.w) k f fd ps (spP K ct.ad n G)) (tk : Takes X W) (hr : Room k X.A) (hg : Gl X x) (hm : X.mg x = some (.ref f)) (hk : PySem.W.keepIn X.K (.ref f) = true) (hb : Binds X.K fd ps [])
    (h1 : PE X e (TP K ct W m)) (ha : PA X es (TAr K ct W (evAs as))) (hdb : (x == ("__debug__" : Str)) = false := by decide) (he : starEach (e :: es) X.env = (false, eval e X.env) :: starEach es X.env := by rfl) (hpl : (backTo pos (starEach es X.env)).any (·.1) = false := by rfl) :
    PE X (.Call (.Name x p) (e :: es) [] pos) (TP K ct W (evCallN n G m as)) := (pe_callS Fn hr hg hm hk hb (fun σ => passAt tk σ) (pa_cons h1 ha he) hdb he hpl).imp fun σ H Q h => by
  obtain ⟨fr, F, ρ, S, h⟩ := h
  refine Tat.bnd h S fun F1 H1 ρ1 v r s1 S1 r1 h => ?_
  cases r with
  | d d => obtain ⟨_, _, e, _⟩ := h; cases e
  | c c =>
    obtain ⟨q, rfl, fq⟩ := r1
    refine Tat.held h S1 fq fun F2 H2 ρ2 vs ar s2 S2 f2 r2 h => ?_
    rw [List.map_nil, List.append_nil] at h
    exact Tat.callN h S2 f2 r2 fun _ _ _ z => z
end
end PL
end
section
namespace PL
open PySem PySem.Spec PyProof.Rows L2
variable {K : PySem.W.Frag} {ad : Cl → Addr} {ct : CT}
variable {fr : Fr} {F F' H H' : Hp} {σ : L2.St} {ρ : List Sl} {W : WX}
/-! ### methods of a class -/
/-- C.m is the plain def at g -/
structure SMet (K : PySem.W.Frag) (C : Addr) (mc : Value) (m : Str) (p g : Addr) : Prop where
  fnd : PySem.W.findCls K (.ref C) mc m = some (.get (.builtin "staticmethod.__get__") (.ref p) .none (.ref C))
  wraps : ∃ rest, PySem.W.recIn K p "staticmethod" = some (.ref g :: rest)
def evCallC (n : Nat) (G : Fn) (c : Cl) (as : List AE) : Ev := bnd (evAs as) fun ar => noEr (callG n G (.d (.cl c) :: ar))
section
variable {X : Cx} {CX : CXT} {k : Nat} {f : Addr} {fd : FuncData} {ps : List Str} {x m : Str} {p pos apos : Pos} {e o : Expr} {es : List Expr} {n : Nat} {G : Fn} {as : List AE} {dvs : List V} {dds : List D} {ds : List Value} {q : Addr} {mc : Value} {sp : Sp}
theorem sm_here {pins : List (Addr × Obj)} {s : Shared} {A : Around} {C : Addr} {E : Value → Shared → Prop} {pl : Sem Bool} {Q : Value × List Value → Shared → Prop} (I : Inv X pins σ H s) (r : ClX.CRead X.K C mc) (c : SMet X.K C mc m q f)
    (h : ∀ s1, Inv X pins σ H s1 → Q (.ref f, []) s1) : wpAny (model X.prog X.w) A (getMethod (.ref C) m pl) Q E s := by
  obtain ⟨rest, hp⟩ := c.wraps
  refine PySem.W.method_cls I.kIn r.ga (PySem.W.cls_bind I.kIn r.rd c.fnd ?_)
  exact wpAny_call (PySem.W.sm_get (s := { s with toks := s.toks + 1 }) I.kIn hp (PySem.W.handed_on rfl (h _ (I.tok _))))
/-- what raises goes on by the slots as they stand -/
def tSM (C : Addr) (sp : Sp) (dvs : List V) (E : L2.St → XK) (ta : TE) (t : TA) : TE := fun σ H Q => ta σ H fun y H1 => y = .ref C ∧ t σ H1 fun vs H2 => sp (vs ++ dvs) H2 Q (E σ)
theorem pe_sm {C : Addr} {pl : Sem Bool} {E : L2.St → XK} {ta : TE} {t : TA} (he : PE X o ta) (r : ClX.CRead X.K C mc) (c : SMet X.K C mc m q f) (hk : PySem.W.keepIn X.K (.ref f) = true) (Fn : FnOk X.prog X.w X.K X.mg X.base CX k f fd ps sp) (hr : Room k X.A) (hb : Binds X.K fd ps []) (hx : ∀ σ, PassesAt CX X σ (E σ)) (ha : PA X (e :: es) t)
    (hst : starEach (e :: es) X.env = (false, eval e X.env) :: starEach es X.env := by rfl) (hpl : (backTo pos (starEach es X.env)).any (·.1) = false := by rfl)
    (ht : CallsM X o m apos pos pl (e :: es) := by rfl) : PE X (.Call (.Attribute o m apos) (e :: es) [] pos) (tSM C sp [] E ta t) where
  run pn s σ G0 Q I h := by
    refine PySem.W.methodCall_KW (pl := pl) (thn (he.run pn s σ G0 _ I h) ?_) ht
    rintro u s1 ⟨y, G1, I1, ry, ey, z⟩
    subst ey
    obtain rfl : u = Value.ref C := ry
    refine sm_here I1 r c fun s2 I2 => ?_
    refine PySem.W.callWith_K (h₀ := X.base) (first := []) I2.ok.mod.kin hk (thn (ha.run pos pn s2 σ G1 _ I2 z) ?_) hst hpl
    rintro us s3 ⟨vs, G2, I3, rv, z3⟩
    refine ⟨I3.kIn, run_fnS Fn hr hb (hx σ) I3 rv ?_⟩
    rw [List.append_nil] at z3
    exact z3
theorem pe_sm0 {C : Addr} {pl : Sem Bool} {E : L2.St → XK} {ta : TE} (he : PE X o ta) (r : ClX.CRead X.K C mc) (c : SMet X.K C mc m q f) (hk : PySem.W.keepIn X.K (.ref f) = true) (Fn : FnOk X.prog X.w X.K X.mg X.base CX k f fd ps sp) (hr : Room k X.A) (hb : Binds X.K fd ps []) (hx : ∀ σ, PassesAt CX X σ (E σ))
    (ht : CallsM X o m apos pos pl [] := by rfl) : PE X (.Call (.Attribute o m apos) [] [] pos) (tSM C sp [] E ta tNil) where
  run pn s σ G0 Q I h := by
    refine PySem.W.methodCall_KW (pl := pl) (thn (he.run pn s σ G0 _ I h) ?_) ht
    rintro u s1 ⟨y, G1, I1, ry, ey, z⟩
    subst ey
    obtain rfl : u = Value.ref C := ry
    refine sm_here I1 r c fun s2 I2 => ?_
    exact PySem.W.callWith_K0 (first := []) I2.kIn hk (run_fnS (us := []) (vs := []) Fn hr hb (hx σ) I2 .nil z)
theorem pass_all {E1 : XK} (h : Passes CX X E1) : ∀ σ, PassesAt CX X σ E1 := fun σ pins H s0 e s1 I z => h pins σ H s0 e s1 I z
section
theorem pp_sm (c : Cl) (he : PE X o (tC (.ref (ct.ad c)))) (r : ClX.CRead X.K (ct.ad c) mc) (sm : SMet X.K (ct.ad c) mc m q f) (hk : PySem.W.keepIn X.K (.ref f) = true) (Fn : FnOk X.prog X.w X.K X.mg X.base CX k f fd ps (spP K ct.ad n G)) (hr : Room k X.A) (hb : Binds X.K fd ps []) (hx : Passes CX X E0) (ha : PA X (e :: es) (TAr K ct W (evAs as)))
    (hst : starEach (e :: es) X.env = (false, eval e X.env) :: starEach es X.env := by rfl) (hpl : (backTo pos (starEach es X.env)).any (·.1) = false := by rfl)
    {pl : Sem Bool} (ht : CallsM X o m apos pos pl (e :: es) := by rfl) : PE X (.Call (.Attribute o m apos) (e :: es) [] pos) (TP K ct W (evCall0 n G as)) := (pe_sm he r sm hk Fn hr hb (pass_all hx) ha hst hpl ht).imp fun σ H Q h => by
  obtain ⟨fr, F, ρ, S, h⟩ := h
  refine ⟨rfl, ?_⟩
  refine Tat.bnd h S fun F1 H1 ρ1 vs ar s1 S1 r1 h => ?_
  rw [List.append_nil]
  rw [List.map_nil, List.append_nil] at h
  exact Tat.call (W := fun _ _ _ _ => False) h.noEr S1 r1 fun _ _ _ z => z
theorem pp_smS (c : Cl) (he : PE X o (tC (.ref (ct.ad c)))) (r : ClX.CRead X.K (ct.ad c) mc) (sm : SMet X.K (ct.ad c) mc m q f) (hk : PySem.W.keepIn X.K (.ref f) = true) (Fn : FnOk X.prog X.w X.K X.mg X.base (L2.CX X.prog X.w) k f fd ps (spP K ct.ad n G)) (tk : Takes X W) (hr : Room k X.A) (hb : Binds X.K fd ps []) (ha : PA X (e :: es) (TAr K ct W (evAs as)))
    (hst : starEach (e :: es) X.env = (false, eval e X.env) :: starEach es X.env := by rfl) (hpl : (backTo pos (starEach es X.env)).any (·.1) = false := by rfl)
    {pl : Sem Bool} (ht : CallsM X o m apos pos pl (e :: es) := by rfl) : PE X (.Call (.Attribute o m apos) (e :: es) [] pos) (TP K ct W (evCall n G as)) := (pe_sm he r sm hk Fn hr hb (fun σ => passAt tk σ) ha hst hpl ht).imp fun σ H Q h => by
  obtain ⟨fr, F, ρ, S, h⟩ := h
  refine ⟨rfl, ?_⟩
  refine Tat.bnd h S fun F1 H1 ρ1 vs ar s1 S1 r1 h => ?_
  rw [List.append_nil]
  rw [List.map_nil, List.append_nil] at h
  exact Tat.call h S1 r1 fun _ _ _ z => z
theorem pp_sm0 (c : Cl) (he : PE X o (tC (.ref (ct.ad c)))) (r : ClX.CRead X.K (ct.ad c) mc) (sm : SMet X.K (ct.ad c) mc m q f) (hk : PySem.W.keepIn X.K (.ref f) = true) (Fn : FnOk X.prog X.w X.K X.mg X.base CX k f fd ps (spP K ct.ad n G)) (hr : Room k X.A) (hb : Binds X.K fd ps []) (hx : Passes CX X E0)
    {pl : Sem Bool} (ht : CallsM X o m apos pos pl [] := by rfl) : PE X (.Call (.Attribute o m apos) [] [] pos) (TP K ct W (evCall0 n G [])) := (pe_sm0 he r sm hk Fn hr hb (pass_all hx) ht).imp fun σ H Q h => by
  obtain ⟨fr, F, ρ, S, h⟩ := h
  exact ⟨rfl, Tat.call (W := fun _ _ _ _ => False) (ar := []) (Tat.noEr h) S RAs.nil fun _ _ _ z => z⟩
theorem pp_sm0S (c : Cl) (he : PE X o (tC (.ref (ct.ad c)))) (r : ClX.CRead X.K (ct.ad c) mc) (sm : SMet X.K (ct.ad c) mc m q f) (hk : PySem.W.keepIn X.K (.ref f) = true) (Fn : FnOk X.prog X.w X.K X.mg X.base (L2.CX X.prog X.w) k f fd ps (spP K ct.ad n G)) (tk : Takes X W) (hr : Room k X.A) (hb : Binds X.K fd ps [])
    {pl : Sem Bool} (ht : CallsM X o m apos pos pl [] := by rfl) : PE X (.Call (.Attribute o m apos) [] [] pos) (TP K ct W (evCall n G [])) := (pe_sm0 he r sm hk Fn hr hb (fun σ => passAt tk σ) ht).imp fun σ H Q h => by
  obtain ⟨fr, F, ρ, S, h⟩ := h
  exact ⟨rfl, Tat.call (ar := []) h S RAs.nil fun _ _ _ z => z⟩
/-- C.m(..), m a classmethod: the class goes first -/
theorem pp_cm (c : Cl) (he : PE X o (tC (.ref (ct.ad c)))) (r : ClX.CRead X.K (ct.ad c) mc) (cm : ClX.CMet X.K (ct.ad c) mc m q f) (Fn : FnOk X.prog X.w X.K X.mg X.base CX k f fd ps (spP K ct.ad n G)) (hr : Room k X.A) (hb : Binds X.K fd ps []) (hx : Passes CX X E0) (ha : PA X (e :: es) (TAr K ct W (evAs as)))
    (hst : starEach (e :: es) X.env = (false, eval e X.env) :: starEach es X.env := by rfl) (hpl : (backTo pos (starEach es X.env)).any (·.1) = false := by rfl)
    {pl : Sem Bool} (ht : CallsM X o m apos pos pl (e :: es) := by rfl) : PE X (.Call (.Attribute o m apos) (e :: es) [] pos) (TP K ct W (evCallC n G c as)) := (ClX.pe_cmeth he r cm (Fn.raw hb .nil) hr hx ha hst hpl ht).imp fun σ H Q h => by
  obtain ⟨fr, F, ρ, S, h⟩ := h
  refine ⟨rfl, ?_⟩
  refine Tat.bnd h S fun F1 H1 ρ1 vs ar s1 S1 r1 h => ?_
  show spP K ct.ad n G (V.ref (ct.ad c) :: vs ++ []) H1 Q _
  rw [List.append_nil]
  exact Tat.call (W := fun _ _ _ _ => False) h.noEr S1 (RAs.cons (show RA1 K ct.ad F1 σ (.ref (ct.ad c)) (.d (.cl c)) from Rp.cl c) r1) fun _ _ _ z => z
end
/-- cls(..): the class that slot i holds -/
def evMkL (i n : Nat) (G : Fn) (c : Cl) (as : List AE) : Ev := fun ρ => match ρ[i]? with
  | some (.dat (.cl c')) => if c' = c then evMk n G c as [] ρ else none
  | _ => none
theorem pe_makeSL {C : Addr} {i : Nat} {E : L2.St → XK} {t : TA} (ho : PE X (.Name x p) (tVar i)) (M : Mk X.K C f) (Fn : FnOk X.prog X.w X.K X.mg X.base CX k f fd ps sp) (room : Room (k + 1) X.A) (bd : Binds X.K fd ps ds) (vd : Vals dvs ds) (px : ∀ σ, PassesAt CX X σ (E σ)) (args : PA X (e :: es) t)
    (h1 : starEach (e :: es) X.env = (false, eval e X.env) :: starEach es X.env := by rfl) (h2 : (backTo pos (starEach es X.env)).any (·.1) = false := by rfl) :
    PE X (.Call (.Name x p) (e :: es) [] pos) (fun σ H Q => σ[i]? = some (some (.ref C)) ∧ OW.tMakeS C sp dvs E t σ H Q) where
  run pn s σ G Q I h := by
    obtain ⟨hs, z⟩ := h
    refine wpAny_Call_Name_kw (thn (ho.run pn s σ G (fun y G1 => y = .ref C ∧ G1 = G) I ⟨.ref C, hs, rfl, rfl⟩) ?_)
    rintro u s1 ⟨y, G1, I1, ry, e1, e2⟩
    subst e1 e2
    obtain rfl : u = Value.ref C := ry
    refine PySem.W.callWith_K (h₀ := X.base) I1.ok.mod.kin M.kp ?_ h1 h2
    refine thn (args.run pos pn s1 σ _ _ I1 z) ?_
    rintro us s2 ⟨_, _, J, rv, q⟩
    exact ⟨J.kIn, OW.run_makeS M Fn room bd vd (px σ) J rv q⟩
theorem pp_makeSL {i : Nat} (c : Cl) (ho : PE X (.Name x p) (tVar i)) (M : Mk X.K (ct.ad c) f) (Fn : FnOk X.prog X.w X.K X.mg X.base (L2.CX X.prog X.w) k f fd ps (spP K ct.ad n G)) (tk : Takes X W) (hr : Room (k + 1) X.A) (hb : Binds X.K fd ps [])
    (ha : PA X (e :: es) (TAr K ct W (evAs as))) (h1 : starEach (e :: es) X.env = (false, eval e X.env) :: starEach es X.env := by rfl) (h2 : (backTo pos (starEach es X.env)).any (·.1) = false := by rfl) :
    PE X (.Call (.Name x p) (e :: es) [] pos) (TP K ct W (evMkL i n G c as)) := (pe_makeSL ho M Fn hr hb .nil (fun σ => passAt tk σ) ha h1 h2).imp fun σ H Q h => by
  obtain ⟨fr, F, ρ, S, r0, ρ0, e0, q0⟩ := h
  unfold evMkL at e0
  cases hi : ρ[i]? with
  | none => rw [hi] at e0; cases e0
  | some s =>
    rw [hi] at e0
    obtain ⟨u, e1, sr⟩ := S.slot i s hi
    cases s with
    | dat d =>
      cases d with
      | cl c' =>
        dsimp only at e0
        split at e0
        · rename_i ec
          subst ec
          obtain ⟨v, e2, rp⟩ := sr
          cases rp
          refine ⟨by rw [e1, e2], ?_⟩
          have h : Tat K ct (RV K ct.ad) W fr F ρ (evMk n G c' as) σ Q := ⟨r0, ρ0, e0, q0⟩
          refine Tat.bnd h S fun F1 H1 ρ1 vs ar s1 S1 r1 h => ?_
          intro x dx z1 z2 z3
          rw [List.append_nil]
          rw [List.map_nil, List.append_nil] at h
          exact Tat.mk h S1 r1 (fun _ _ _ z => z) x dx z1 z2 z3
        · cases e0
      | _ => cases e0
    | _ => cases e0
end
end PL
end
section
namespace PL
open PySem PySem.Spec PyProof.Rows L2
variable {K : PySem.W.Frag} {ad : Cl → Addr} {ct : CT}
variable {fr : Fr} {F F' H H' : Hp} {σ : L2.St} {ρ : List Sl} {W : WX}
/-! ### max and min with the default None -/
def bestN (f : Int → Int → Int) : List Int → V
  | [] => .non
  | n :: ns => .int (ns.foldl f n)
def wBestN (f : Int → Int → Int) (K : PySem.W.Frag) : List V → List V → Hp → VK → Prop := fun vs zs H Q => ∃ (a : Addr) (ns : List Int), vs = [.ref a] ∧ zs = [.non] ∧ SqL K H a (ns.map V.int) ∧ Q (bestN f ns) H
section
variable {X : Cx}
theorem c_maxN (hc : X.calm = true) (hu : X.A.units + 64 < cLine) : CallRK X (.builtin "max") ["default"] (wBestN max X.K) := by
  rintro pn s σ H vs zs us ws Q I r rz ⟨a, ns, rfl, rfl, hs, q⟩
  obtain rfl := Vals.ref1 r
  (obtain ⟨w1, rfl, e1⟩ := vals1 rz)
  have e1 : w1 = Value.none := e1
  subst e1
  (obtain ⟨its, rv, hl, hz⟩ := I.list hs)
  have hd := OW.depth_ints ns
  refine PySem.W.max_list_default (I.ok.hd hc) hl.isList (xs := ns.map PyData.int) (as := []) (by simpa using rv.ints.reads s.heap) (OW.alike_ints ns) (by omega) (fun e h1 tk kp => ?_) (fun y ys i v h1 tk bs e e2 rd kp => ?_)
  · obtain rfl : ns = [] := by simpa using e
    exact ⟨.non, H, I.kept kp, rfl, q⟩
  · cases ns with
    | nil => cases e
    | cons n ns =>
      rw [List.map_cons] at e
      cases e
      rw [PySem.W.maxD_ints] at rd
      cases rd
      exact ⟨.int _, H, I.kept kp, ⟨_, rfl⟩, q⟩
theorem c_minN (hc : X.calm = true) (hu : X.A.units + 64 < cLine) : CallRK X (.builtin "min") ["default"] (wBestN min X.K) := by
  rintro pn s σ H vs zs us ws Q I r rz ⟨a, ns, rfl, rfl, hs, q⟩
  obtain rfl := Vals.ref1 r
  (obtain ⟨w1, rfl, e1⟩ := vals1 rz)
  have e1 : w1 = Value.none := e1
  subst e1
  (obtain ⟨its, rv, hl, hz⟩ := I.list hs)
  have hd := OW.depth_ints ns
  refine PySem.W.min_list_default (I.ok.hd hc) hl.isList (xs := ns.map PyData.int) (as := []) (by simpa using rv.ints.reads s.heap) (OW.alike_ints ns) (by omega) (fun e h1 tk kp => ?_) (fun y ys i v h1 tk bs e e2 rd kp => ?_)
  · obtain rfl : ns = [] := by simpa using e
    exact ⟨.non, H, I.kept kp, rfl, q⟩
  · cases ns with
    | nil => cases e
    | cons n ns =>
      rw [List.map_cons] at e
      cases e
      rw [PySem.W.minD_ints] at rd
      cases rd
      exact ⟨.int _, H, I.kept kp, ⟨_, rfl⟩, q⟩
end
def bestD (f : Int → Int → Int) : List Int → D
  | [] => .non
  | n :: ns => .int (ns.foldl f n)
def gBestN (f : Int → Int → Int) : List D → Option D | [d] => (lints d).map (bestD f) | _ => none
def evBestN (f : Int → Int → Int) (es : List DE) : Ev := bnd (evDs es) fun ds => opt ((gBestN f ds).map Rv.d)
theorem pp_bestN {X : Cx} {f : Int → Int → Int} {x : Str} {id : String} {e de : Expr} {es : List DE} {p pos kp : Pos} {nm : Option Str} (hC : CallRK X (.builtin id) ["default"] (wBestN f X.K)) (eK : X.K = K) (hg : Gl X x) (hm : X.mg x = none) (hbt : bootBuiltins x = some (.builtin id)) (hx : x ≠ ("__name__" : Str)) (hx2 : (x == ("__debug__" : Str)) = false) (ha : PA X [e] (TD K ct W (evDs es))) (hd : PE X de (tC .non))
    (he : backTo pos (starEach [e] X.env) = (false, eval e X.env) :: backTo pos (starEach [] X.env) := by rfl) (hpl : (backTo pos (starEach [e] X.env)).any (·.1) = false := by rfl)
    (hall : (backToKw pos (keywordEach [⟨nm, de, kp⟩] X.env)).all (·.1.isSome) = true := by rfl) (hnone : (backToKw pos (keywordEach [⟨nm, de, kp⟩] X.env)).any (·.1.isNone) = false := by rfl) (hks : (backToKw pos (keywordEach [⟨nm, de, kp⟩] X.env)).filterMap (·.1) = [("default" : Str)] := by rfl) :
    PE X (.Call (.Name x p) [e] [⟨nm, de, kp⟩] pos) (TP K ct W (evBestN f es)) := by
  subst eK
  refine (pe_callBK (x := x) hC hg hm hbt ha (pk_cons hd pk_nil) hx hx2 he hpl hall hnone hks).imp fun σ H Q ⟨fr, F, ρ, S, h⟩ => ?_
  refine Tat.bnd h S fun F1 H1 ρ1 vs ds s1 S1 r1 h => ?_
  obtain ⟨r, e, q⟩ := h.opt
  obtain ⟨z, e1, e2⟩ := map_some e
  subst e2
  unfold gBestN at e1
  split at e1
  · rename_i d
    obtain ⟨ns, g1, g2⟩ := map_some e1
    subst g2
    obtain ⟨u, rfl, ru⟩ := one_i r1
    obtain ⟨xs, k1, k2⟩ := lints_i g1
    obtain ⟨a, rfl, hs⟩ := ru.lints S1.fh k1 k2
    refine ⟨a, ns, rfl, rfl, hs, q _ F1 H1 (Same.refl _) S1 ?_⟩
    cases ns with
    | nil => exact Rp.non
    | cons n ns => exact Rp.int _
  · cases e1
/-! ### x in xs, both data -/
def rInD (K : PySem.W.Frag) (neg : Bool) : R2 := fun x y H Q => ∃ (d : PyData) (xs : List PyData), Dp K H x d ∧ (Dp K H y (.list xs) ∨ Dp K H y (.tuple xs)) ∧ PyData.plainAll xs = true ∧ d.plain = true ∧ d.depth ≤ 60 ∧ Q (.bl (if neg then !(xs.any fun z => PyData.eqv z d) else xs.any fun z => PyData.eqv z d)) H
theorem op_inD {X : Cx} (hu : X.A.units + 64 < cLine) : OpR X (compareOp .In) (rInD X.K false) := by
  rintro pins s σ H x y v u Q I rx ry ⟨d, xs, h1, h2, h3, h4, h5, q⟩
  obtain ⟨as, r1⟩ := Dp.reads I d x v h1 rx
  have l : X.A.units + 1 + min (PyData.depthAll xs) d.depth < cLine := by
    have : min (PyData.depthAll xs) d.depth ≤ d.depth := Nat.min_le_right _ _
    omega
  rcases h2 with h2 | h2
  · obtain ⟨bs, r2⟩ := Dp.reads I _ y u h2 ry
    exact SeqAt.in_list_data r2 r1 h3 h4 l ⟨.bl _, H, I, rfl, q⟩
  · obtain ⟨bs, r2⟩ := Dp.reads I _ y u h2 ry
    exact SeqAt.in_tuple_data r2 r1 h3 h4 l ⟨.bl _, H, I, rfl, q⟩
theorem op_notInD {X : Cx} (hu : X.A.units + 64 < cLine) : OpR X (compareOp .NotIn) (rInD X.K true) := by
  rintro pins s σ H x y v u Q I rx ry ⟨d, xs, h1, h2, h3, h4, h5, q⟩
  obtain ⟨as, r1⟩ := Dp.reads I d x v h1 rx
  have l : X.A.units + 1 + min (PyData.depthAll xs) d.depth < cLine := by
    have : min (PyData.depthAll xs) d.depth ≤ d.depth := Nat.min_le_right _ _
    omega
  rcases h2 with h2 | h2
  · obtain ⟨bs, r2⟩ := Dp.reads I _ y u h2 ry
    exact SeqAt.notIn_list_data r2 r1 h3 h4 l ⟨.bl _, H, I, rfl, q⟩
  · obtain ⟨bs, r2⟩ := Dp.reads I _ y u h2 ry
    exact SeqAt.notIn_tuple_data r2 r1 h3 h4 l ⟨.bl _, H, I, rfl, q⟩
def D.its : PyData → Option (List PyData) | .list xs => some xs | .tuple xs => some xs | _ => none
def dInDB (d e : D) : Option Bool := match d.py, e.py.bind D.its with
  | some p, some xs => if PyData.plainAll xs && p.plain && decide (p.depth ≤ 60) then some (xs.any fun z => PyData.eqv z p) else none
  | _, _ => none
def dInD (d e : D) : Option D := (dInDB d e).map .bl
def dNotInD (d e : D) : Option D := (dInDB d e).map fun b => .bl (!b)
theorem inD_cases {F H : Hp} {x y : V} {d e : D} {b : Bool} {neg : Bool} {Q : VK} (s : Same F H) (r1 : Rp K ct.ad F x d) (r2 : Rp K ct.ad F y e) (h : dInDB d e = some b) (q : Q (.bl (if neg then !b else b)) H) : rInD K neg x y H Q := by
  unfold dInDB at h
  split at h
  · rename_i p xs e1 e2
    split at h
    · rename_i c
      rw [Bool.and_eq_true, Bool.and_eq_true, decide_eq_true_eq] at c
      cases h
      obtain ⟨z, e3, e4⟩ := Option.bind_eq_some_iff.mp e2
      refine ⟨p, xs, r1.dp s e1, ?_, c.1.1, c.1.2, c.2, q⟩
      cases z with
      | list ys => cases e4; exact .inl (r2.dp s e3)
      | tuple ys => cases e4; exact .inr (r2.dp s e3)
      | _ => cases e4
    · cases h
  · cases h
theorem o_inD : O2 K ct.ad (rInD K false) dInD := by
  intro F H x y d e z Q s r1 r2 h q
  obtain ⟨b, e1, rfl⟩ := map_some h
  exact inD_cases (ct := ct) s r1 r2 e1 (q _ (Rp.bl _))
theorem o_notInD : O2 K ct.ad (rInD K true) dNotInD := by
  intro F H x y d e z Q s r1 r2 h q
  obtain ⟨b, e1, rfl⟩ := map_some h
  exact inD_cases (ct := ct) (neg := true) s r1 r2 e1 (q _ (Rp.bl _))
/-! ### text * n -/
def repS (x : Str) (n : Nat) : Str := ⟨(List.replicate n x.cps).foldl (· ++ ·) #[]⟩
theorem rep_size (a : Array Nat) : ∀ (k : Nat) (b : Array Nat), ((List.replicate k a).foldl (· ++ ·) b).size = b.size + a.size * k
  | 0, b => rfl
  | k + 1, b => by
    rw [List.replicate_succ, List.foldl_cons, rep_size a k, Array.size_append, Nat.mul_succ]
    omega
theorem repS_len (t : Str) (n : Nat) : (repS t n).length = t.length * n := by
  show ((List.replicate n t.cps).foldl (· ++ ·) #[]).size = t.cps.size * n
  rw [rep_size]
  simp
def rMulS : R2 := fun x y H Q => ∃ (t : Str) (n : Int), x = .str t ∧ y = .int n ∧ -(2 ^ 63) ≤ n ∧ n < 2 ^ 63 ∧ t.length * n.toNat ≤ 16777216 ∧ Q (.str (repS t n.toNat)) H
theorem op_mulS {X : Cx} : OpR X (binaryOp .Mult) rMulS := by
  rintro pins s σ H x y v u Q I rx ry ⟨t, n, rfl, rfl, h1, h2, h3, q⟩
  obtain ⟨tk, rfl⟩ := rx
  obtain ⟨tk2, rfl⟩ := ry
  refine PySem.P.mul_str ?_ ?_ ?_ ?_
  · rw [decide_eq_false (by omega), decide_eq_false (by omega)]; rfl
  · intro a _
    have : (t.length : Int) ≤ (2 ^ 63 - 1) / n := by
      refine (Int.le_ediv_iff_mul_le (by omega)).mpr ?_
      have e : ((t.length * n.toNat : Nat) : Int) = (t.length : Int) * n := by rw [Int.natCast_mul, Int.toNat_of_nonneg (by omega)]
      omega
    omega
  · intro _ _
    exact decide_eq_false (by show ¬ t.length * n.toNat > 2 ^ 24; omega)
  · split
    · rename_i a
      have e : repS t n.toNat = Str.empty := by
        rw [show n.toNat = 0 by omega]; rfl
      rw [e] at q
      exact ⟨by decide, ⟨.str _, H, I.tok _, ⟨_, rfl⟩, q⟩⟩
    · split
      · rename_i a b
        have e : repS t n.toNat = t := by
          rw [Bool.or_eq_true] at b
          rcases b with b | b
          · have : n = 1 := by simpa using b
            subst this
            show (⟨#[] ++ t.cps⟩ : Str) = t
            simp
          · have z : t.cps = #[] := by
              have : t.length = 0 := by simpa using b
              exact Array.eq_empty_of_size_eq_zero this
            have : ∀ k, (List.replicate k t.cps).foldl (· ++ ·) #[] = #[] := fun k => by
              rw [z]
              induction k with
              | zero => rfl
              | succ k ih => rw [List.replicate_succ, List.foldl_cons]; exact ih
            unfold repS
            rw [this, ← z]
        rw [e] at q
        exact ⟨.str _, H, I, ⟨_, rfl⟩, q⟩
      · refine ⟨?_, ⟨.str _, H, I.tok _, ⟨_, rfl⟩, q⟩⟩
        show (repS t n.toNat).length ≤ 2 ^ 24
        rw [repS_len]
        omega
def dMulS : D → D → Option D
  | .str t, .int n => if -(2 ^ 63) ≤ n ∧ n < 2 ^ 63 ∧ t.length * n.toNat ≤ 16777216 then some (.str (repS t n.toNat)) else none
  | _, _ => none
theorem o_mulS : O2 K ct.ad rMulS dMulS := by
  intro F H x y d e z Q s r1 r2 h q
  cases d <;> cases e <;> try cases h
  rename_i t n
  cases r1; cases r2
  have h : (if -(2 ^ 63) ≤ n ∧ n < 2 ^ 63 ∧ t.length * n.toNat ≤ 16777216 then some (D.str (repS t n.toNat)) else none) = some z := h
  split at h
  · rename_i c
    cases h
    exact ⟨t, n, rfl, rfl, c.1, c.2.1, c.2.2, q _ (Rp.str _)⟩
  · cases h
end PL
end
section
namespace PL
open PySem PySem.Spec PyProof.Rows L2
/-! ### several clauses, each with a name -/
abbrev Cla := Value × Nat × (Addr → Value → Option Addr → TS)
/-- behind a suite its name is gone -/
def Ends.gone (D : Ends) (i : Nat) : Ends := { nx := fun z G => D.nx (z.set i none) G, rt := D.rt, bk := fun z G => D.bk (z.set i none) G, ct := fun z G => D.ct (z.set i none) G }
/-- what the clauses want of an exception, in their order -/
def wCl (K : PySem.W.Frag) (W0 : WX) (D : Ends) : List Cla → WX
  | [] => W0
  | cl :: r => fun C d z G => ∃ t, PySem.W.exmOne K C cl.1 = some t ∧
    if t = true then ∀ q, G q = none → cl.2.2 q C d (Ends.gone D cl.2.1) (z.set cl.2.1 (some (.ref q))) G else wCl K W0 D r C d z G
inductive Clauses (X : Cx) : List ExceptHandler → List Cla → Prop
  | nil : Clauses X [] []
  | cons {x n : Str} {C : Value} {i : Nat} {ts : Addr → Value → Option Addr → TS} {b0 : Stmt} {bs : List Stmt} {p1 p2 : Pos} {hds : List ExceptHandler} {l : List Cla} (hN : X.N[i]? = some n) (hl : X.env.kindOf n = some .local) (hC : Names X x C)
      (run : ∀ (q : Addr) (o : Obj) (Z : Value) (d : Option Addr) (pn : List (Addr × Obj)), Zc Z d o → (∃ ws, o.data = .fields ws) → PSs (X.suite q ((q, o) :: pn)) (b0 :: bs) (ts q Z d)) (r : Clauses X hds l) :
      Clauses X (.ExceptHandler (some (.Name x p1)) (some n) (b0 :: bs) p2 :: hds) ((C, i, ts) :: l)
section
variable {X : Cx} {body : List Stmt} {hds : List ExceptHandler} {h0 : ExceptHandler} {l : List Cla} {pos : Pos} {tb : WX → TS} {W0 : WX}
theorem s_clauses (hs : X.stack = X.env :: X.outer) (hf : X.env.frame = some X.env.locals) (nd : X.N.Nodup) (tk : Takes X W0)
    (hb : ∀ (W : WX) (pn : List (Addr × Obj)) (xe : Value → Shared → Prop), Takes (X.tr pn xe) W → PassesOwn (model X.prog X.w) X.A X.env xe → PSs (X.tr pn xe) body (tb W))
    (hh : Clauses X (h0 :: hds) l) : PS X (.Try body (h0 :: hds) [] [] pos) (fun D z G => tb (wCl X.K W0 D l) D z G) where
  run pins s z0 G0 D I h := by
    have good := I.ok
    have frames : X.A.frames = some (X.env :: X.outer) := by rw [good.frames, hs]
    refine wpAny_Try_except (wpAny_mono ((hb (wCl X.K W0 D l) (X.pn ++ pins) _ ?_ PassesOwn.looking).run [] s z0 G0 D (I.toTry _) h) ?_ fun _ _ y => y)
    · -- an exception comes
      rintro _ s1 ⟨q, B, t0, pins1, z, G, C, d, rfl, J0, nb, up, sky, free, os, ag, w⟩
      have J := J0.ofTry good
      rw [hs] at sky
      refine Sky.land Zc.steady frames hf sky fun h3 fly up3 => ?_
      have J3 : Inv X pins z G { s1 with heap := h3 } := J.landed nb fly.1 (up.trans up3) os ag
      obtain ⟨o3, w3, at3, zc3, dat3⟩ := fly.there
      have off : q ∉ frs (X.env :: X.outer) := fun m => by
        obtain ⟨_, o, e1, nf⟩ := fly.2.2.1.mem m
        rw [at3] at e1
        cases e1
        exact nf _ dat3
      have offL : q ≠ X.env.locals := fun e => off (List.mem_filterMap.mpr ⟨X.env, List.mem_cons_self, by rw [hf, e]⟩)
      have offF : q ∉ X.fs := fun m => by
        obtain ⟨v, hv, y⟩ := List.mem_filterMap.mp m
        exact off (List.mem_filterMap.mpr ⟨v, List.mem_cons_of_mem _ hv, y⟩)
      have S3 := J3.suite at3 dat3 free offL offF
      have go : ∀ {hs1 : List ExceptHandler} {l1 : List Cla}, Clauses X hs1 l1 → wCl X.K W0 D l1 C d z G →
          wpAny (model X.prog X.w) X.A (handleBy (.ref q) X.env hs1) (SP X pins D) X.xe { s1 with heap := h3 } := by
        intro hs1 l1 hk
        induction hk with
        | nil =>
          intro w
          refine wpAny_handleBy_nil ?_
          obtain ⟨_, _, _, o, ws, T, oT, ts1, e1, _, e2, e3, _⟩ := id fly
          unfold PySem.passOn
          refine wpAny_bind (wpAny_field e1 e2 e3 ?_)
          rw [if_neg (by simp)]
          have out : wpAny (model X.prog X.w) X.A (setFlight (.ref q) X.env.frame) (fun _ s4 => wpAny (model X.prog X.w) X.A (throw (.ref q) : Sem Flow) (SP X pins D) X.xe s4) X.xe { s1 with heap := h3 } := by
            rw [hf]
            exact HandSPX.setFlight_upZ fly fun h4 sk4 up4 => wpAny_throw (tk _ _ ⟨q, B, t0, pins, z, G, C, d, rfl, J, nb, (up.trans up3).trans up4, .inr (.inr (by rw [hs]; exact sk4)), free, os, ag, w⟩)
          first
            | exact wpAny_bind (wpAny_pure (wpAny_bind out))
            | exact wpAny_bind out
        | @cons x n C1 i ts b0 bs p1 p2 hds2 l2 hN hl hC run r ih =>
          rintro ⟨t, e1, w⟩
          refine wpAny_handleBy_cons (codeAny_handlers_test ?_) (fun y => nomatch y)
          have kind : PySem.W.Looks (model X.prog X.w) h3 (typeOf (.ref q)) C := fun _ _ _ s5 k y => wpAny_typeOf_ref (k _ _ at3) (by rw [zc3.1]; exact y)
          have nm : ∀ {Q E : Value → Shared → Prop}, Q C1 { s1 with heap := h3 } → wpAny (model X.prog X.w) (X.A.mark (some (.ref q))) (eval (.Name x p1) X.env) Q E { s1 with heap := h3 } := fun {Q E} y => by
            obtain ⟨y1, y2, y3 | ⟨y3, y4, y5⟩⟩ := hC
            · exact ld_glob (X := X.suite q ((q, o3) :: (X.pn ++ pins))) S3 y1 y3 y y2
            · exact ld_blt (X := X.suite q ((q, o3) :: (X.pn ++ pins))) S3 y1 y3 y4 y y5 y2
          refine nm ((PySem.W.exm_one (M := model X.prog X.w) J3.kIn kind e1).here ?_)
          cases t with
          | false => exact ih w
          | true =>
            refine codeAny_handlers_suite_as (HandSPX.lands_againZ fly fun h4 fl4 up4 => ?_)
            have J4 : Inv X pins z G { s1 with heap := h4 } := J.landed nb fl4.1 ((up.trans up3).trans up4) os ag
            obtain ⟨o4, w4, at4, zc4, dat4⟩ := fl4.there
            refine store_ok (X := X.suite q ((q, o4) :: (X.pn ++ pins))) (v := .ref q) (J4.suite at4 dat4 free offL offF) nd hN (.inl hl) rfl (fun s5 S5 => ?_) (.inr hl)
            refine wpAny_mono ((run q o4 C d (X.pn ++ pins) zc4 ⟨_, dat4⟩).run [] s5 _ G _ S5 (w q free)) (fun f s6 y => ?_) (fun _ _ y => y.elim)
            have fin : ∀ {z6 : L2.St} {G6 : Hp} {Q : Shared → Prop}, Inv (X.suite q ((q, o4) :: (X.pn ++ pins))) [] z6 G6 s6 → (∀ s7, Inv X pins (z6.set i none) G6 s7 → Q s7) →
                wpAny (model X.prog X.w) X.A (do bindName X.env n .none; unbindBehindTheSuite X.env n p2) (fun _ s7 => Q s7) X.xe s6 := fun S6 k => gone_ok (S6.unsuite good) nd hN hl k
            cases f with
            | next => exact let ⟨_, _, y1, y2⟩ := y; fin y1 fun _ y3 => ⟨_, _, y3, y2⟩
            | brk => exact let ⟨_, _, y1, y2⟩ := y; fin y1 fun _ y3 => ⟨_, _, y3, y2⟩
            | cont => exact let ⟨_, _, y1, y2⟩ := y; fin y1 fun _ y3 => ⟨_, _, y3, y2⟩
            | ret u => exact let ⟨_, _, _, y1, y4, y2⟩ := y; fin y1 fun _ y3 => ⟨_, _, _, y3, y4, y2⟩
      exact go hh w
    · rintro f s1 y
      cases f with
      | next => exact let ⟨_, _, y1, y2⟩ := y; wpAny_execs_nil ⟨_, _, y1.ofTry good, y2⟩
      | brk => exact let ⟨_, _, y1, y2⟩ := y; ⟨_, _, y1.ofTry good, y2⟩
      | cont => exact let ⟨_, _, y1, y2⟩ := y; ⟨_, _, y1.ofTry good, y2⟩
      | ret u => exact let ⟨_, _, _, y1, y4, y2⟩ := y; ⟨_, _, _, y1.ofTry good, y4, y2⟩
end
variable {K : PySem.W.Frag} {ct : CT} {fr : Fr} {F H : Hp} {σ : L2.St} {ρ : List Sl} {W : WX}
abbrev Clp := Nat × List (Cl × Bool) × M Fl
/-- the first clause that takes it -/
def pick : List Clp → Cl → Option D → M Fl
  | [], c, pl => fun ρ => some (.er c pl, ρ)
  | x :: r, c, pl => fun ρ => match x.2.1.lookup c with
    | some true => suiteA x.1 c pl x.2.2 ρ
    | some false => pick r c pl ρ
    | none => none
def evTryM (body : M Fl) (cs : List Clp) : M Fl := fun ρ => match body ρ with
  | some (.er c pl, ρ1) => pick cs c pl ρ1
  | r => r
theorem Sat.suiteA {i : Nat} {c : Cl} {pl : Option D} {d : Option Addr} {s : M Fl} {En : Ends} (h : Sat K ct W En fr F ρ (PL.suiteA i c pl s)) (S : Rel K ct fr F H σ ρ) (pr : PlR K ct.ad F c pl d) (a : Addr) : TSt K (ct.su a (.ref (ct.ad c)) d) WF s (Ends.gone En i) (σ.set i (some (.ref a))) H := by
  obtain ⟨r, ρ', e, q⟩ := h
  unfold PL.suiteA at e
  split at e
  · rename_i n1
    split at e
    · cases e
    · rename_i sl hn hsl
      have np := S.npar hsl hn
      split at e
      · rename_i f ρs es
        split at e
        · rename_i n2
          cases e
          have S3 : Rel K (ct.su a (.ref (ct.ad c)) d) fr F H σ ρ := S.ek rfl n1
          refine ⟨fr, F, _, S3.setX rfl pr np, .ok f, _, es, ?_⟩
          cases f with
          | nx => exact fun σ2 F2 H2 s2 S2 => q _ F2 H2 s2 ((S2.setU np).ek rfl n2)
          | bk => exact fun σ2 F2 H2 s2 S2 => q _ F2 H2 s2 ((S2.setU np).ek rfl n2)
          | ct => exact fun σ2 F2 H2 s2 S2 => q _ F2 H2 s2 ((S2.setU np).ek rfl n2)
          | rt x =>
            intro σ2 v F2 H2 s2 S2 rv
            refine q σ2 v F2 H2 s2 ((S2.unR np).ek rfl n2) ?_
            cases x with
            | d d => exact rv
            | c c =>
              obtain ⟨p, ev, f1, f2, f3, f4, f5⟩ := rv
              refine ⟨p, ev, f1, f2, f3, f4, fun j k c' z1 z2 => ?_⟩
              by_cases w : i = j
              · subst w
                rw [List.getElem?_set] at z1
                split at z1
                · split at z1 <;> cases z1
                · rename_i w; exact absurd rfl w
              · rw [List.getElem?_set_ne w] at z1; exact f5 j k c' z1 z2
        · cases e
      · cases e
    · cases e
  · cases e
variable (K ct) in
inductive PRel : List Clp → List Cla → Prop
  | nil : PRel [] []
  | cons {i : Nat} {cv : Value} {cat : List (Cl × Bool)} {s : M Fl} {cs : List Clp} {l : List Cla} (C : CatOk K ct.ad cv cat) (r : PRel cs l) : PRel ((i, cat, s) :: cs) ((cv, i, fun a Z d => TSt K (ct.su a Z d) WF s) :: l)
theorem w_pick {En : Ends} {c : Cl} {pl : Option D} {d : Option Addr} : ∀ {cs : List Clp} {l : List Cla}, PRel K ct cs l → ∀ {F : Hp}, Sat K ct W En fr F ρ (pick cs c pl) → Rel K ct fr F H σ ρ → PlR K ct.ad F c pl d → wCl K W En l (.ref (ct.ad c)) d σ H
  | _, _, .nil, F, h, S, pr => by
    obtain ⟨r, ρ', e, q⟩ := h
    cases e
    exact q σ d F H (Same.refl _) S pr
  | _, _, .cons (i := i) (cat := cat) (s := s) (cs := cs) C r, F, h, S, pr => by
    obtain ⟨r0, ρ', e, q⟩ := h
    have e : (match cat.lookup c with | some true => PL.suiteA i c pl s ρ | some false => pick cs c pl ρ | none => none) = some (r0, ρ') := e
    cases el : cat.lookup c with
    | none => rw [el] at e; cases e
    | some b =>
      rw [el] at e
      refine ⟨b, C.get el, ?_⟩
      cases b with
      | true => exact fun a _ => Sat.suiteA ⟨r0, ρ', e, q⟩ S pr a
      | false => exact w_pick r ⟨r0, ρ', e, q⟩ S pr
theorem w_tryM {body : M Fl} {cs : List Clp} {l : List Cla} {En : Ends} (R : PRel K ct cs l) (h : TSt K ct W (evTryM body cs) En σ H) : TSt K ct (wCl K W En l) body En σ H := by
  obtain ⟨fr, F, ρ, S, r, ρ', e, q⟩ := h
  refine ⟨fr, F, ρ, S, ?_⟩
  unfold evTryM at e
  cases eb : body ρ with
  | none => rw [eb] at e; cases e
  | some x =>
    obtain ⟨rb, ρ1⟩ := x
    rw [eb] at e
    refine ⟨rb, ρ1, eb, ?_⟩
    cases rb with
    | ok f => cases e; cases f <;> exact q
    | er c pl =>
      intro σ1 d F1 H1 s1 S1 pr
      refine w_pick R (F := F1) ⟨r, ρ', e, ?_⟩ S1 pr
      cases r with
      | er c' pl' => exact fun σ2 d2 F2 H2 s2 S2 pr2 => q σ2 d2 F2 H2 (s1.trans s2) S2 pr2
      | ok f => cases f with
        | nx => exact fun σ2 F2 H2 s2 S2 => q σ2 F2 H2 (s1.trans s2) S2
        | bk => exact fun σ2 F2 H2 s2 S2 => q σ2 F2 H2 (s1.trans s2) S2
        | ct => exact fun σ2 F2 H2 s2 S2 => q σ2 F2 H2 (s1.trans s2) S2
        | rt x => exact fun σ2 v F2 H2 s2 S2 rv => q σ2 v F2 H2 (s1.trans s2) S2 rv
section
variable {X : Cx} {body : List Stmt} {hds : List ExceptHandler} {h0 : ExceptHandler} {pos : Pos} {mb : M Fl} {cs : List Clp}
variable (K ct) in
/-- the clauses of a text, and what they are -/
structure ClsOk (X : Cx) (hds : List ExceptHandler) (cs : List Clp) : Prop where
  both : ∃ l, Clauses X hds l ∧ PRel K ct cs l
theorem ClsOk.nil : ClsOk K ct X [] [] := ⟨[], .nil, .nil⟩
theorem ClsOk.cons {x n : Str} {cv : Value} {i : Nat} {b0 : Stmt} {bs : List Stmt} {p1 p2 : Pos} {cat : List (Cl × Bool)} {s : M Fl} (hN : X.N[i]? = some n) (hl : X.env.kindOf n = some .local) (hC : Names X x cv) (C : CatOk K ct.ad cv cat)
    (run : ∀ (q : Addr) (o : Obj) (Z : Value) (d : Option Addr) (pn : List (Addr × Obj)), Zc Z d o → (∃ ws, o.data = .fields ws) → PSs (X.suite q ((q, o) :: pn)) (b0 :: bs) (TSt K (ct.su q Z d) WF s)) (r : ClsOk K ct X hds cs) :
    ClsOk K ct X (.ExceptHandler (some (.Name x p1)) (some n) (b0 :: bs) p2 :: hds) ((i, cat, s) :: cs) := by
  obtain ⟨l, h1, h2⟩ := r.both
  exact ⟨_, .cons hN hl hC run h1, .cons C h2⟩
theorem s_tryM (eK : X.K = K) (hs : X.stack = X.env :: X.outer) (hf : X.env.frame = some X.env.locals) (nd : X.N.Nodup) (tk : Takes X W)
    (hb : ∀ (W : WX) (pn : List (Addr × Obj)) (xe : Value → Shared → Prop), Takes (X.tr pn xe) W → PassesOwn (model X.prog X.w) X.A X.env xe → PSs (X.tr pn xe) body (TSt K ct W mb))
    (hh : ClsOk K ct X (h0 :: hds) cs) : PS X (.Try body (h0 :: hds) [] [] pos) (TSt K ct W (evTryM mb cs)) := by
  subst eK
  obtain ⟨l, h1, h2⟩ := hh.both
  exact (s_clauses hs hf nd tk hb h1).imp fun En σ H => w_tryM h2
end
end PL
end
section
namespace PL
open PySem PySem.Spec PyProof.Rows L2
variable {K : PySem.W.Frag} {ct : CT} {fr : Fr} {F H : Hp} {σ : L2.St} {ρ : List Sl} {W : WX}
/-! ### [e for x in xs for y in ys] -/
def lcGo2 (vs : List Nat) (tg : Tg) (c : M Bool) (it : M (List D)) (vs1 : List Nat) (tg1 : Tg) (c1 : M Bool) (e : Ev) : List D → List D → M (List D)
  | [], acc => pur acc
  | x :: xs, acc => fun ρ => match asgT tg x ρ with
    | some (.ok .nx, ρ1) => bnd (noEr c) (fun b => if b then bnd (noEr it) (fun ys => bnd (fun ρ => lcGo vs1 tg1 c1 e ys acc (wipeR ρ vs1)) fun acc' => fun ρ => lcGo2 vs tg c it vs1 tg1 c1 e xs acc' (wipeR ρ vs)) else fun ρ => lcGo2 vs tg c it vs1 tg1 c1 e xs acc (wipeR ρ vs)) ρ1
    | _ => none
def evLc2 (vs : List Nat) (it : M (List D)) (tg : Tg) (c : M Bool) (it1 : M (List D)) (vs1 : List Nat) (tg1 : Tg) (c1 : M Bool) (e : Ev) : Ev := bnd it fun xs => lcRun vs (lcGo2 vs tg c it1 vs1 tg1 c1 e) xs
theorem wipe_sub (σ : L2.St) {vs vs1 : List Nat} (h : ∀ i ∈ vs1, i ∈ vs) : L2.wipe (L2.wipe σ vs1) vs = L2.wipe σ vs := by
  refine List.ext_getElem? fun i => ?_
  rw [wipe_get, wipe_get, wipe_get, wipe_length]
  by_cases a : i ∈ vs ∧ i < σ.length
  · rw [if_pos a, if_pos a]
  · rw [if_neg a, if_neg a, if_neg (fun z => a ⟨h i z.1, z.2⟩)]
theorem bndO {α β : Type} {m : M α} {k : α → M β} {r : β} {ρ' : List Sl} (hm : ∀ c pl ρ1, m ρ ≠ some (.er c pl, ρ1)) (h : bnd m k ρ = some (.ok r, ρ')) : ∃ a ρ1, m ρ = some (.ok a, ρ1) ∧ k a ρ1 = some (.ok r, ρ') := by
  unfold bnd at h
  cases e : m ρ with
  | none => (rw [e] at h; cases h)
  | some x =>
    obtain ⟨ra, ρ1⟩ := x
    rw [e] at h
    cases ra with
    | ok a => exact ⟨a, ρ1, rfl, h⟩
    | er c pl => exact absurd e (hm c pl ρ1)
/-- a comprehension ends with a list, or not at all -/
theorem lcGo_ok {vs : List Nat} {tg : Tg} {c : M Bool} {e : Ev} : ∀ {xs acc : List D} {ρ : List Sl} {c0 : Cl} {pl : Option D} {ρ1 : List Sl}, lcGo vs tg c e xs acc ρ ≠ some (.er c0 pl, ρ1)
  | [], acc, ρ, c0, pl, ρ1 => fun h => by cases h
  | x :: xs, acc, ρ, c0, pl, ρ1 => fun h => by
    unfold lcGo at h
    cases ea : asgT tg x ρ with
    | none => rw [ea] at h; cases h
    | some y =>
      obtain ⟨ry, ρ4⟩ := y
      rw [ea] at h
      cases ry with
      | er c pl => cases h
      | ok fl =>
        cases fl with
        | nx =>
          have h : bnd (noEr c) (fun b => if b then bnd (dat (noEr e)) (fun d => if acc.length < 16777216 then (fun ρ => lcGo vs tg c e xs (acc ++ [d]) (wipeR ρ vs)) else fai) else fun ρ => lcGo vs tg c e xs acc (wipeR ρ vs)) ρ4 = some (.er c0 pl, ρ1) := h
          obtain ⟨b, ρ5, ec, h⟩ := bndI h
          cases b with
          | false => exact lcGo_ok h
          | true =>
            have h : bnd (dat (noEr e)) (fun d => if acc.length < 16777216 then (fun ρ => lcGo vs tg c e xs (acc ++ [d]) (wipeR ρ vs)) else fai) ρ5 = some (.er c0 pl, ρ1) := h
            have fin : ∀ {d ρ6}, (if acc.length < 16777216 then (fun ρ => lcGo vs tg c e xs (acc ++ [d]) (wipeR ρ vs)) else fai) ρ6 = some (Ex.er c0 pl, ρ1) → False := fun {d ρ6} z => by
              split at z
              · exact lcGo_ok z
              · cases z
            rcases datI h with ⟨d, ρ6, _, h⟩ | ⟨cc, d, ρ6, _, _, h⟩
            · exact fin h
            · exact fin h
        | _ => cases h
theorem w_lc2 {vs vs1 : List Nat} {it it1 : M (List D)} {tg tg1 : Tg} {c c1 : M Bool} {e : Ev} {Q : VK} (hv : ∀ i ∈ tg.sl, i ∈ vs) (hv1 : ∀ i ∈ tg1.sl, i ∈ vs1) (hsub : ∀ i ∈ vs1, i ∈ vs) (h : TP K ct W (evLc2 vs it tg c it1 vs1 tg1 c1 e) σ H Q) :
    tLc2 (TIt K ct W it) (TGt K ct tg) (TB K ct WF c) (TIt K ct WF it1) (TGt K ct tg1) (TB K ct WF c1) (TP K ct WF e) vs vs1 σ H Q := by
  obtain ⟨fr, F, ρ, S, h⟩ := h
  refine Tat.bnd h S fun F1 H1 ρ1 J xs s1 S1 r1 h => ?_
  intro D hD
  obtain ⟨r0, ρ0, e0, q0⟩ := h
  unfold lcRun at e0
  split at e0
  case isFalse => cases e0
  rename_i ok
  have np := okOwn_np S1 ok
  have np1 : ∀ v ∈ vs1, fr.pa v = none := fun v hv => np v (hsub v hv)
  cases ego : lcGo2 vs tg c it1 vs1 tg1 c1 e xs [] (wipeR ρ1 vs) with
  | none => rw [ego] at e0; cases e0
  | some y =>
  obtain ⟨ry, ρf⟩ := y
  rw [ego] at e0
  cases ry with
  | er c pl => cases e0
  | ok accf =>
  cases e0
  have dP := S1.np hD
  have dp : ∀ j, fr.pa j ≠ some D := fun j => (S1.fresh (o := .lst []) (c := .lst []) hD ⟨[], upd_same, .nil⟩).2.2.1 j
  let Next : Nat → Hp → Prop := fun i H => ∃ F2 ρ2 vacc acc, Same F1 F2 ∧ Rps K ct.ad F2 vacc acc ∧ Rel K ct (fr.prot D (.lst vacc)) F2 H (L2.wipe σ vs) ρ2 ∧ lcGo2 vs tg c it1 vs1 tg1 c1 e (xs.drop i) acc ρ2 = some (.ok accf, ρf)
  refine ⟨fun i m H => m = xs.length - i ∧ i ≤ xs.length ∧ Next i H, ⟨xs.length, by simp, Nat.zero_le _, F1, _, [], [], Same.refl _, .nil, (S1.wipe np).prot hD, ego⟩, ?_⟩
  rintro i m H2 ⟨rfl, hi, F2, ρ2, vacc, acc, s2, ra, S2, eg⟩
  have itr := r1 F2 H2 s2 S2.fh i
  by_cases lt : i < xs.length
  · refine .inr ?_
    obtain ⟨go, yl⟩ := itr.1 xs[i] (List.getElem?_eq_getElem lt)
    refine ⟨go, Next (i + 1), fun H' z => ⟨xs.length - (i + 1), by omega, rfl, lt, z⟩, fun v H3 y => ?_⟩
    obtain ⟨F3, al, rp⟩ := yl v H3 y
    have S3 := S2.al al
    rw [List.drop_eq_getElem_cons lt] at eg
    unfold lcGo2 at eg
    cases ea : asgT tg xs[i] ρ2 with
    | none => rw [ea] at eg; cases eg
    | some x =>
    obtain ⟨rx, ρ4⟩ := x
    rw [ea] at eg
    cases rx with
    | er c pl => cases eg
    | ok fl =>
    cases fl with
    | bk => cases eg
    | ct => cases eg
    | rt r => cases eg
    | nx =>
    refine ⟨fr.prot D (.lst vacc), F3, ρ2, xs[i], ρ4, S3, rp, ea, fun σ4 F4 H4 s4 o4 S4 => ?_⟩
    have wk : L2.wipe σ4 vs = L2.wipe σ vs := by rw [(o4.sub hv).wipe, wipe_wipe]
    refine ⟨wk, ?_⟩
    have s14 : Same F1 F4 := (s2.trans al.1).trans s4
    have eg : bnd (noEr c) (fun b => if b then bnd (noEr it1) (fun ys => bnd (fun ρ => lcGo vs1 tg1 c1 e ys acc (wipeR ρ vs1)) fun acc' => fun ρ => lcGo2 vs tg c it1 vs1 tg1 c1 e (xs.drop (i + 1)) acc' (wipeR ρ vs)) else fun ρ => lcGo2 vs tg c it1 vs1 tg1 c1 e (xs.drop (i + 1)) acc (wipeR ρ vs)) ρ4 = some (.ok accf, ρf) := eg
    obtain ⟨b, ρ5, ec, eg⟩ := bndI eg
    refine ⟨fr.prot D (.lst vacc), F4, ρ4, S4, .ok b, ρ5, ec, fun v F5 H5 s5 S5 rb => ?_⟩
    have rb : v = b := rb
    subst rb
    cases v with
    | false =>
      show if false = true then _ else _
      (rw [if_neg Bool.false_ne_true])
      exact ⟨F5, _, vacc, acc, s14.trans s5, ra.mono ((al.1.trans s4).trans s5), by rw [← wk]; exact S5.wipe np, eg⟩
    | true =>
    show if true = true then _ else _
    rw [if_pos rfl]
    have eg : bnd (noEr it1) (fun ys => bnd (fun ρ => lcGo vs1 tg1 c1 e ys acc (wipeR ρ vs1)) fun acc' => fun ρ => lcGo2 vs tg c it1 vs1 tg1 c1 e (xs.drop (i + 1)) acc' (wipeR ρ vs)) ρ5 = some (.ok accf, ρf) := eg
    obtain ⟨ys, ρ6, ei, eg⟩ := bndI eg
    refine ⟨fr.prot D (.lst vacc), F5, ρ5, S5, .ok ys, ρ6, ei, fun J1 F6 H6 s6 S6 r6 => ?_⟩
    obtain ⟨accj, ρe, ej, eg⟩ := bndO (fun _ _ _ => lcGo_ok) eg
    have ra6 := ra.mono (((al.1.trans s4).trans s5).trans s6)
    refine ⟨fun j m H => m = ys.length - j ∧ j ≤ ys.length ∧ ∃ F7 ρ7 vacc acc, Same F6 F7 ∧ Rps K ct.ad F7 vacc acc ∧ Rel K ct (fr.prot D (.lst vacc)) F7 H (L2.wipe σ4 vs1) ρ7 ∧ lcGo vs1 tg1 c1 e (ys.drop j) acc ρ7 = some (.ok accj, ρe),
      ⟨ys.length, by simp, Nat.zero_le _, F6, _, vacc, acc, Same.refl _, ra6, S6.wipe np1, ej⟩, ?_⟩
    rintro j m H7 ⟨rfl, hj, F7, ρ7, vacc7, acc7, s7, ra7, S7, eg7⟩
    have itr1 := r6 F7 H7 s7 S7.fh j
    by_cases lt1 : j < ys.length
    · refine .inr ?_
      obtain ⟨go1, yl1⟩ := itr1.1 ys[j] (List.getElem?_eq_getElem lt1)
      refine ⟨go1, fun H' => ∃ F7 ρ7 vacc acc, Same F6 F7 ∧ Rps K ct.ad F7 vacc acc ∧ Rel K ct (fr.prot D (.lst vacc)) F7 H' (L2.wipe σ4 vs1) ρ7 ∧ lcGo vs1 tg1 c1 e (ys.drop (j + 1)) acc ρ7 = some (.ok accj, ρe), fun H' z => ⟨ys.length - (j + 1), by omega, rfl, lt1, z⟩, fun v H8 y1 => ?_⟩
      obtain ⟨F8, al1, rp1⟩ := yl1 v H8 y1
      have S8 := S7.al al1
      rw [List.drop_eq_getElem_cons lt1] at eg7
      unfold lcGo at eg7
      cases ea1 : asgT tg1 ys[j] ρ7 with
      | none => rw [ea1] at eg7; cases eg7
      | some x =>
      obtain ⟨rx, ρ9⟩ := x
      rw [ea1] at eg7
      cases rx with
      | er c pl => cases eg7
      | ok fl =>
      cases fl with
      | bk => cases eg7
      | ct => cases eg7
      | rt r => cases eg7
      | nx =>
      refine ⟨fr.prot D (.lst vacc7), F8, ρ7, ys[j], ρ9, S8, rp1, ea1, fun σ9 F9 H9 s9 o9 S9 => ?_⟩
      have wk1 : L2.wipe σ9 vs1 = L2.wipe σ4 vs1 := by rw [(o9.sub hv1).wipe, wipe_wipe]
      refine ⟨wk1, ?_⟩
      have back : ∀ {F5 H5 ρ5 vacc' acc'}, Same F9 F5 → Rps K ct.ad F5 vacc' acc' → Rel K ct (fr.prot D (.lst vacc')) F5 H5 σ9 ρ5 → lcGo vs1 tg1 c1 e (ys.drop (j + 1)) acc' (wipeR ρ5 vs1) = some (.ok accj, ρe) →
          ∃ F7 ρ7 vacc acc, Same F6 F7 ∧ Rps K ct.ad F7 vacc acc ∧ Rel K ct (fr.prot D (.lst vacc)) F7 H5 (L2.wipe σ4 vs1) ρ7 ∧ lcGo vs1 tg1 c1 e (ys.drop (j + 1)) acc ρ7 = some (.ok accj, ρe) := fun {F5 H5 ρ5 vacc' acc'} s5 ra5 S5 e5 =>
        ⟨F5, _, vacc', acc', ((s7.trans al1.1).trans s9).trans s5, ra5, by rw [← wk1]; exact S5.wipe np1, e5⟩
      have eg7 : bnd (noEr c1) (fun b => if b then bnd (dat (noEr e)) (fun d => if acc7.length < 16777216 then (fun ρ => lcGo vs1 tg1 c1 e (ys.drop (j + 1)) (acc7 ++ [d]) (wipeR ρ vs1)) else fai) else fun ρ => lcGo vs1 tg1 c1 e (ys.drop (j + 1)) acc7 (wipeR ρ vs1)) ρ9 = some (.ok accj, ρe) := eg7
      obtain ⟨b, ρa, ec1, eg7⟩ := bndI eg7
      refine ⟨fr.prot D (.lst vacc7), F9, ρ9, S9, .ok b, ρa, ec1, fun v Fa Ha sa Sa rb => ?_⟩
      have rb : v = b := rb
      subst rb
      cases v with
      | false =>
        show if false = true then _ else _
        (rw [if_neg Bool.false_ne_true])
        exact back sa (ra7.mono ((al1.1.trans s9).trans sa)) Sa eg7
      | true =>
        show if true = true then _ else _
        rw [if_pos rfl]
        have fin : ∀ {d ρ6}, (if acc7.length < 16777216 then (fun ρ => lcGo vs1 tg1 c1 e (ys.drop (j + 1)) (acc7 ++ [d]) (wipeR ρ vs1)) else fai) ρ6 = some (Ex.ok accj, ρe) → acc7.length < 16777216 ∧ lcGo vs1 tg1 c1 e (ys.drop (j + 1)) (acc7 ++ [d]) (wipeR ρ6 vs1) = some (.ok accj, ρe) := fun {d ρ6} z => by
          split at z
          · rename_i w; exact ⟨w, z⟩
          · cases z
        rcases datI eg7 with ⟨d, ρb, ee, eg7⟩ | ⟨cc, d, ρb, ee, ef, eg7⟩
        · obtain ⟨al6, eg7⟩ := fin eg7
          refine ⟨fr.prot D (.lst vacc7), Fa, ρa, Sa, _, ρb, ee, fun v Fb Hb sb Sb rv => ?_⟩
          have rv : Rp K ct.ad Fb v d := rv
          exact ⟨vacc7, Sb.protD.2, by rw [ra7.len]; exact al6, back (sa.trans sb) ((ra7.mono (((al1.1.trans s9).trans sa).trans sb)).snoc rv) Sb.reprot eg7⟩
        · obtain ⟨al6, eg7⟩ := fin eg7
          refine ⟨fr.prot D (.lst vacc7), Fa, ρa, Sa, _, ρb, ee, fun v Fb Hb sb Sb rv => ?_⟩
          obtain ⟨p, ev, fp⟩ := rv
          subst ev
          obtain ⟨Fc, sc, rpc, Sc⟩ := fp.frz Sb ef
          exact ⟨vacc7, Sc.protD.2, by rw [ra7.len]; exact al6, back ((sa.trans sb).trans sc) ((ra7.mono ((((al1.1.trans s9).trans sa).trans sb).trans sc)).snoc rpc) Sc.reprot eg7⟩
    · refine .inl ⟨itr1.2 (by omega), ?_⟩
      rw [List.drop_eq_nil_of_le (by omega)] at eg7
      have eg7 : pur acc7 ρ7 = some (.ok accj, ρe) := eg7
      cases eg7
      refine ⟨F7, _, vacc7, accj, (((s14.trans s5).trans s6).trans s7), ra7, ?_, eg⟩
      rw [← wk, ← wipe_sub σ4 hsub]
      exact S7.wipe np
  · refine .inl ⟨itr.2 (by omega), ?_⟩
    rw [List.drop_eq_nil_of_le (by omega)] at eg
    have eg : pur acc ρ2 = some (.ok accf, ρf) := eg
    cases eg
    obtain ⟨S5, fr5⟩ := S2.unprot dP dp (c := .lst accf) ⟨vacc, S2.protD.2, ra⟩
    have S6 := S1.rest s2 ok S5
    refine q0 _ F2 H2 s2 S6 ⟨D, rfl, fr5.1, fr5.2.1, fr5.2.2.1, fr5.2.2.2.1, fun j k c' z1 z2 => ?_⟩
    obtain ⟨p', o', g1, g2⟩ := S6.cell_at z1
    rw [g1] at z2
    cases z2
    rw [restR_get] at z1
    split at z1
    · rename_i w
      have h1 := List.all_eq_true.mp ok j w.1
      cases q : ρ1[j]? with
      | none => rw [q] at z1; cases z1
      | some x =>
        rw [q] at z1 h1
        have z1 : some x = some (Sl.cel k c') := z1
        cases z1
        cases h1
    · rename_i w
      have m : j ∉ vs := fun m => w ⟨m, (List.getElem?_eq_some_iff.mp z1).1⟩
      refine fr5.2.2.2.2 j k c' z1 ?_
      rw [wipe_get, if_neg (fun z => m z.1)]
      exact g1
section
variable {X : Cx}
theorem pp_lc2 {elt tg iter tg1 iter1 : Expr} {ifs ifs1 : List Expr} {scope : Scope} {own : List (Str × Nat)} {vs1 : List Nat} {pos : Pos} {it it1 : M (List D)} {t t1 : Tg} {c c1 : M Bool} {e : Ev} (hc : X.calm = true) (hN : X.N.Nodup) (hi : PI X tg iter (TIt K ct W it)) (ok : BlkOk X.N X.env.scope scope own) (hsub : ∀ i ∈ vs1, i ∈ own.map (·.2))
    (hg : ∀ (s : Shared) (H : Hp) (C : Addr) (cl : List (Str × Addr)) (fp : List Addr), PG (X.blk s H scope (compEnvC scope cl C X.env) fp) tg (TGt K ct t)) (ht : ∀ (s : Shared) (H : Hp) (C : Addr) (cl : List (Str × Addr)) (fp : List Addr), PTs (X.blk s H scope (compEnvC scope cl C X.env) fp) ifs (TB K ct WF c))
    (hi1 : ∀ (s : Shared) (H : Hp) (C : Addr) (cl : List (Str × Addr)) (fp : List Addr), PI (X.blk s H scope (compEnvC scope cl C X.env) fp) tg1 iter1 (TIt K ct WF it1))
    (hg1 : ∀ (s : Shared) (H : Hp) (C : Addr) (cl : List (Str × Addr)) (fp : List Addr), PG (X.blk s H scope (compEnvC scope cl C X.env) fp) tg1 (TGt K ct t1)) (ht1 : ∀ (s : Shared) (H : Hp) (C : Addr) (cl : List (Str × Addr)) (fp : List Addr), PTs (X.blk s H scope (compEnvC scope cl C X.env) fp) ifs1 (TB K ct WF c1))
    (he : ∀ (s : Shared) (H : Hp) (C : Addr) (cl : List (Str × Addr)) (fp : List Addr), PE (X.blk s H scope (compEnvC scope cl C X.env) fp) elt (TP K ct WF e)) (hv : ∀ i ∈ t.sl, i ∈ own.map (·.2) := by decide) (hv1 : ∀ i ∈ t1.sl, i ∈ vs1 := by decide) (hs : ∀ x, foldedSetIterable iter X.env x = pure x := by intro _; rfl) (hs1 : ∀ env x, foldedSetIterable iter1 env x = pure x := by intro _ _; rfl) :
    PE X (.ListComp elt [⟨tg, iter, ifs, 0⟩, ⟨tg1, iter1, ifs1, 0⟩] scope pos) (TP K ct W (evLc2 (own.map (·.2)) it t c it1 vs1 t1 c1 e)) := (pe_lc2 hc hN hi ok hsub hg ht hi1 hg1 ht1 he hs hs1).imp fun σ H Q => w_lc2 hv hv1 hsub
end
end PL
end
section
namespace PL
open PySem PySem.Spec PyProof.Rows L2
variable {K : PySem.W.Frag} {ad : Cl → Addr} {ct : CT} {fr : Fr} {F H : Hp} {σ : L2.St} {ρ : List Sl} {W : WX}
/-! ### defs with a star parameter -/
variable (K ad) in
/-- n values, the others in a new tuple -/
def spV (n : Nat) (G : Fn) : Sp := fun vs H Q E => ∃ ws rest, vs = ws ++ rest ∧ ws.length = n ∧ rest.length ≤ sizeLine ∧ ∀ p, H p = none → spP K ad (n + 1) G (ws ++ [V.ref p]) (upd H p (.tup rest)) Q E
/-- how such a def binds -/
def BindsV (x qual : Str) (st : Stmt) (ps : List Str) (pv : Str) : Prop := ∀ (kV doc pm : Value) (an : Option Addr) (cdv ctv : Value) (us rest : List Value), us.length = ps.length →
  bindArgs (PySem.W.fnOf x qual (defArgs st) (defBody st) (defScope st) .none kV doc pm an cdv ctv) ⟨us ++ rest, []⟩ = (newTuple rest >>= fun t => pure (ps.zip us ++ [(pv, t)]))
theorem okV {P : Program} {w : World} {mg : Str → Option Value} {base : Heap} {x qual : Str} {st : Stmt} {f : Addr} {fd : FuncData} {N ps : List Str} {pv : Str} {lv n k : Nat} {s : M Fl} (Fd : L2.Fun K x qual st f fd) (S : FnScope N (ps ++ [pv]) (defScope st)) (hB : BindsV x qual st ps pv) (hp : ps.length = n) (hN : N.length = n + 1 + k)
    (hb : ∀ (cdv : Value) (A : Around) (outer : List Env) (s0 : Shared) (H : Hp) (E : XK), Room lv (A.deeper (envOfC qual (defScope st) s0.heap.objs.size f cdv)) →
      PSs (cxOf (L2.CX P w) P w K mg base N qual (defScope st) f cdv A outer s0 H E) (defBody st) (TSt K (cx ad) (fun cls d _ H' => E cls d H') s)) : FnR P w K mg base (L2.CX P w) (lv + 1) f (spV K ad n (runB k s)) := by
  obtain ⟨oc, od, kV, doc, pm, an, cdv, ctv, osl, rfl, lk, hcd⟩ := Fd.ex
  have := StX.fn_star (sp := spP K ad (n + 1) (runB k s)) (k := lv) lk hcd S StX.cxUp (hB kV doc pm an cdv ctv) fun A outer s0 H vs Q E hr h => ⟨_, hb cdv A outer s0 H E hr, body_end hN h⟩
  rw [hp] at this
  exact this
def Ar.data : Ar → Option D | .d z => some z | .c _ => none
def datas : List Ar → Option (List D)
  | [] => some []
  | a :: as => match a.data, datas as with | some d, some ds => some (d :: ds) | _, _ => none
theorem RAs.datas {F : Hp} {σ : L2.St} : ∀ {vs : List V} {as : List Ar} {ds : List D}, RAs K ct.ad F σ vs as → PL.datas as = some ds → Rps K ct.ad F vs ds
  | _, [], _, .nil, h => by cases h; exact .nil
  | _, a :: as, ds, .cons h r, e => by
    unfold PL.datas at e
    cases ea : a.data with
    | none => rw [ea] at e; cases e
    | some d =>
      cases eb : PL.datas as with
      | none => rw [ea, eb] at e; cases e
      | some ds' =>
        rw [ea, eb] at e
        cases e
        cases a with
        | d d' => cases ea; exact .cons h (RAs.datas r eb)
        | c j => cases ea
theorem Rps.takeDrop {F : Hp} : ∀ {n : Nat} {vs : List V} {ds : List D}, Rps K ct.ad F vs ds → Rps K ct.ad F (vs.take n) (ds.take n) ∧ Rps K ct.ad F (vs.drop n) (ds.drop n)
  | 0, _, _, h => ⟨.nil, h⟩
  | n + 1, _, _, .nil => ⟨.nil, .nil⟩
  | n + 1, _, _, .cons h r => let ⟨a, b⟩ := Rps.takeDrop (n := n) r; ⟨.cons h a, b⟩
/-- what the call comes to -/
def callV (n : Nat) (G : Fn) (ds : List D) : Ev := if n ≤ ds.length ∧ ds.length ≤ 1000000 then callG (n + 1) G ((ds.take n).map .d ++ [.d (.tup (ds.drop n))]) else fai
theorem RAs.ofRps {F : Hp} {σ : L2.St} : ∀ {vs : List V} {ds : List D}, Rps K ct.ad F vs ds → RAs K ct.ad F σ vs (ds.map .d)
  | _, _, .nil => .nil
  | _, _, .cons h r => .cons h (RAs.ofRps r)
theorem RAs.app {F : Hp} {σ : L2.St} : ∀ {vs ws : List V} {as bs : List Ar}, RAs K ct.ad F σ vs as → RAs K ct.ad F σ ws bs → RAs K ct.ad F σ (vs ++ ws) (as ++ bs)
  | _, _, _, _, .nil, h => h
  | _, _, _, _, .cons h r, k => .cons h (RAs.app r k)
theorem Tat.callV {n : Nat} {G : Fn} {vs : List V} {ds : List D} {Q : VK} {E : XK} (h : Tat K ct (RV K ct.ad) W fr F ρ (PL.callV n G ds) σ Q) (S : Rel K ct fr F H σ ρ) (r : Rps K ct.ad F vs ds) (hE : ∀ cls d H', W cls d σ H' → E cls d H') : spV K ct.ad n G vs H Q E := by
  unfold PL.callV at h
  by_cases c : n ≤ ds.length ∧ ds.length ≤ 1000000
  · rw [if_pos c] at h
    have l := Rps.len r
    refine ⟨vs.take n, vs.drop n, (List.take_append_drop n vs).symm, by rw [List.length_take]; omega, by rw [List.length_drop]; show _ ≤ 2 ^ 24; omega, fun p hp => ?_⟩
    have up := same_up (S.nn hp) (o := .tup (vs.drop n))
    obtain ⟨ra, rb⟩ := r.takeDrop (n := n)
    refine Tat.call (ar := (ds.take n).map .d ++ [.d (.tup (ds.drop n))]) (F := upd F p (.tup (vs.drop n))) ?_ (S.newD hp) ?_ hE
    · obtain ⟨r0, ρ0, e, q⟩ := h
      refine ⟨r0, ρ0, e, ?_⟩
      cases r0 with
      | ok a => exact fun v F' H' s' S' rr => q v F' H' (up.trans s') S' rr
      | er c pl => exact fun d F' H' s' S' rr => q d F' H' (up.trans s') S' rr
    · exact RAs.app (RAs.ofRps (ra.mono up)) (.cons (show RA1 K ct.ad _ σ (V.ref p) (.d (.tup (ds.drop n))) from Rp.tup (SqT.of upd_same) (rb.mono up)) .nil)
  · rw [if_neg c] at h
    obtain ⟨_, _, e, _⟩ := h; cases e
/-! is, is not between truth values -/
def dIsB : D → D → Option D | .bl a, .bl true => some (.bl a) | .bl a, .bl false => some (.bl (!a)) | _, _ => none
def dNotB : D → D → Option D | .bl a, .bl true => some (.bl (!a)) | .bl a, .bl false => some (.bl a) | _, _ => none
def rIsB : R2 := fun x y H Q => ∃ a b, x = .bl a ∧ y = .bl b ∧ Q (.bl (decide (a = b))) H
def rNotB : R2 := fun x y H Q => ∃ a b, x = .bl a ∧ y = .bl b ∧ Q (.bl (!decide (a = b))) H
theorem op_isBB {X : Cx} : OpR X (compareOp .Is) rIsB := op_is_bl
theorem op_notBB {X : Cx} : OpR X (compareOp .IsNot) rNotB := op_isnot_bl
theorem o_isB : O2 K ct.ad rIsB dIsB := by
  intro F H x y d e z Q s r1 r2 e1 q
  cases r1 <;> cases r2 <;> try cases e1
  rename_i a b
  refine ⟨a, b, rfl, rfl, q _ ?_⟩
  cases a <;> cases b <;> cases e1 <;> exact .bl _
theorem o_isNotB : O2 K ct.ad rNotB dNotB := by
  intro F H x y d e z Q s r1 r2 e1 q
  cases r1 <;> cases r2 <;> try cases e1
  rename_i a b
  refine ⟨a, b, rfl, rfl, q _ ?_⟩
  cases a <;> cases b <;> cases e1 <;> exact .bl _
def evCallV (n : Nat) (G : Fn) (as : List AE) : Ev := bnd (evAs as) fun ar => bnd (opt (datas ar)) fun ds => callV n G ds
def evCallV0 (n : Nat) (G : Fn) (as : List AE) : Ev := bnd (evAs as) fun ar => bnd (opt (datas ar)) fun ds => noEr (callV n G ds)
/-- f(*xs) -/
def evCallVS (n : Nat) (G : Fn) (m : Ev) : Ev := bnd (dat m) fun d => bnd (opt d.items) fun ds => callV n G ds
section
variable {X : Cx} {CX : CXT} {k : Nat} {f : Addr} {x : Str} {p pos sp_ : Pos} {e : Expr} {es : List Expr} {n : Nat} {G : Fn} {as : List AE} {m : Ev} {sp : Sp} {E : L2.St → XK} {t : TA} {te : TE}
theorem run_fnRS {pins : List (Addr × Obj)} {s : Shared} {Q : VK} {us : List Value} {vs : List V} (Fn : FnR X.prog X.w X.K X.mg X.base CX k f sp) (hr : Room k X.A) (hx : PassesAt CX X σ (E σ)) (I : Inv X pins σ H s) (r : Vals vs us) (h : sp vs H Q (E σ)) : wpAny (model X.prog X.w) X.A (call (.ref f) us) (EP X pins σ Q) X.xe s := by
  refine wpAny_call (codeAny_mono (Fn X.A X.stack s H us vs Q (E σ) hr I.env0 r h) fun z s1 y => ?_)
  cases z with
  | error e => exact hx pins H s e s1 I y
  | ok fl => cases fl with
    | ret u => exact I.after y
    | _ => exact y.elim
theorem pe_callV (Fn : FnR X.prog X.w X.K X.mg X.base CX k f sp) (hr : Room k X.A) (hg : Gl X x) (hm : X.mg x = some (.ref f)) (hk : PySem.W.keepIn X.K (.ref f) = true) (hx : ∀ σ, PassesAt CX X σ (E σ)) (ha : PA X (e :: es) t) (nd : (x == ("__debug__" : Str)) = false := by decide)
    (he : starEach (e :: es) X.env = (false, eval e X.env) :: starEach es X.env := by rfl) (hpl : (backTo pos (starEach es X.env)).any (·.1) = false := by rfl) : PE X (.Call (.Name x p) (e :: es) [] pos) (fun σ H Q => t σ H fun vs H1 => sp vs H1 Q (E σ)) where
  run pn s σ G Q I h := by
    refine wpAny_Call_Name_kw (ld_glob I hg hm ?_ nd)
    refine PySem.W.callWith_K (h₀ := X.base) I.ok.mod.kin hk (thn (ha.run pos pn s σ G _ I h) ?_) he hpl
    rintro us s1 ⟨vs, G1, I1, rv, y⟩
    exact ⟨I1.kIn, run_fnRS Fn hr (hx σ) I1 rv y⟩
theorem pe_callV0 (Fn : FnR X.prog X.w X.K X.mg X.base CX k f sp) (hr : Room k X.A) (hg : Gl X x) (hm : X.mg x = some (.ref f)) (hk : PySem.W.keepIn X.K (.ref f) = true) (hx : ∀ σ, PassesAt CX X σ (E σ)) (nd : (x == ("__debug__" : Str)) = false := by decide) : PE X (.Call (.Name x p) [] [] pos) (fun σ H Q => sp [] H Q (E σ)) where
  run pn s σ G Q I h := by
    refine wpAny_Call_Name_kw (ld_glob I hg hm ?_ nd)
    exact PySem.W.callWith_K0 I.kIn hk (run_fnRS (us := []) (vs := []) Fn hr (hx σ) I .nil h)
theorem pe_callVS (Fn : FnR X.prog X.w X.K X.mg X.base CX k f sp) (hr : Room k X.A) (hg : Gl X x) (hm : X.mg x = some (.ref f)) (hk : PySem.W.keepIn X.K (.ref f) = true) (hx : ∀ σ, PassesAt CX X σ (E σ)) (he : PE X e te) (nd : (x == ("__debug__" : Str)) = false := by decide)
    (hst : starEach [.Starred e sp_] X.env = [(true, eval e X.env)] := by rfl) : PE X (.Call (.Name x p) [.Starred e sp_] [] pos) (fun σ H Q => te σ H fun y H1 => ∃ a xs, y = V.ref a ∧ (SqT X.K H1 a xs ∨ SqL X.K H1 a xs) ∧ sp xs H1 Q (E σ)) where
  run pn s σ G Q I h := by
    refine wpAny_Call_Name_kw (ld_glob I hg hm ?_ nd)
    refine PySem.W.callWith_S (h₀ := X.base) I.ok.mod.kin hk (thn (he.run pn s σ G _ I h) ?_) hst
    rintro u s1 ⟨y, G1, I1, ry, a, xs, ey, hxs, z⟩
    subst ey
    (obtain rfl : u = Value.ref a := ry)
    exact StX.star_any I1 hxs fun us s2 I2 rv => ⟨I2.kIn, run_fnRS Fn hr (hx σ) I2 rv z⟩
theorem pp_callV (Fn : FnR X.prog X.w X.K X.mg X.base CX k f (spV K ct.ad n G)) (hr : Room k X.A) (hg : Gl X x) (hm : X.mg x = some (.ref f)) (hk : PySem.W.keepIn X.K (.ref f) = true) (hx : Passes CX X E0) (ha : PA X (e :: es) (TAr K ct W (evAs as))) (nd : (x == ("__debug__" : Str)) = false := by decide)
    (he : starEach (e :: es) X.env = (false, eval e X.env) :: starEach es X.env := by rfl) (hpl : (backTo pos (starEach es X.env)).any (·.1) = false := by rfl) : PE X (.Call (.Name x p) (e :: es) [] pos) (TP K ct W (evCallV0 n G as)) := (pe_callV Fn hr hg hm hk (pass_all hx) ha nd he hpl).imp fun σ H Q h => by
  obtain ⟨fr, F, ρ, S, h⟩ := h
  refine Tat.bnd h S fun F1 H1 ρ1 vs ar s1 S1 r1 h => ?_
  have h : Tat K ct (RV K ct.ad) W fr F1 ρ1 (bnd (opt (datas ar)) fun ds => noEr (callV n G ds)) σ Q := h
  cases ed : datas ar with
  | none => rw [ed] at h; obtain ⟨_, _, e, _⟩ := h; cases e
  | some ds =>
    rw [ed] at h
    have h : Tat K ct (RV K ct.ad) W fr F1 ρ1 (noEr (callV n G ds)) σ Q := h
    exact Tat.callV (W := fun _ _ _ _ => False) h.noEr S1 (r1.datas ed) fun _ _ _ z => z
theorem pp_callVx (Fn : FnR X.prog X.w X.K X.mg X.base (L2.CX X.prog X.w) k f (spV K ct.ad n G)) (tk : Takes X W) (hr : Room k X.A) (hg : Gl X x) (hm : X.mg x = some (.ref f)) (hk : PySem.W.keepIn X.K (.ref f) = true) (ha : PA X (e :: es) (TAr K ct W (evAs as))) (nd : (x == ("__debug__" : Str)) = false := by decide)
    (he : starEach (e :: es) X.env = (false, eval e X.env) :: starEach es X.env := by rfl) (hpl : (backTo pos (starEach es X.env)).any (·.1) = false := by rfl) : PE X (.Call (.Name x p) (e :: es) [] pos) (TP K ct W (evCallV n G as)) := (pe_callV Fn hr hg hm hk (fun σ => passAt tk σ) ha nd he hpl).imp fun σ H Q h => by
  obtain ⟨fr, F, ρ, S, h⟩ := h
  refine Tat.bnd h S fun F1 H1 ρ1 vs ar s1 S1 r1 h => ?_
  have h : Tat K ct (RV K ct.ad) W fr F1 ρ1 (bnd (opt (datas ar)) fun ds => callV n G ds) σ Q := h
  cases ed : datas ar with
  | none => rw [ed] at h; obtain ⟨_, _, e, _⟩ := h; cases e
  | some ds =>
    rw [ed] at h
    exact Tat.callV h S1 (r1.datas ed) fun _ _ _ z => z
theorem pp_callVx0 (Fn : FnR X.prog X.w X.K X.mg X.base (L2.CX X.prog X.w) k f (spV K ct.ad n G)) (tk : Takes X W) (hr : Room k X.A) (hg : Gl X x) (hm : X.mg x = some (.ref f)) (hk : PySem.W.keepIn X.K (.ref f) = true) (nd : (x == ("__debug__" : Str)) = false := by decide) : PE X (.Call (.Name x p) [] [] pos) (TP K ct W (evCallV n G [])) := (pe_callV0 Fn hr hg hm hk (fun σ => passAt tk σ) nd).imp fun σ H Q h => by
  obtain ⟨fr, F, ρ, S, h⟩ := h
  have h : Tat K ct (RV K ct.ad) W fr F ρ (callV n G []) σ Q := h
  exact Tat.callV h S .nil fun _ _ _ z => z
theorem pp_callV0 (Fn : FnR X.prog X.w X.K X.mg X.base CX k f (spV K ct.ad n G)) (hr : Room k X.A) (hg : Gl X x) (hm : X.mg x = some (.ref f)) (hk : PySem.W.keepIn X.K (.ref f) = true) (hx : Passes CX X E0) (nd : (x == ("__debug__" : Str)) = false := by decide) : PE X (.Call (.Name x p) [] [] pos) (TP K ct W (evCallV0 n G [])) := (pe_callV0 Fn hr hg hm hk (pass_all hx) nd).imp fun σ H Q h => by
  obtain ⟨fr, F, ρ, S, h⟩ := h
  have h : Tat K ct (RV K ct.ad) W fr F ρ (noEr (callV n G [])) σ Q := h
  exact Tat.callV (W := fun _ _ _ _ => False) h.noEr S .nil fun _ _ _ z => z
theorem pp_callVS (eK : X.K = K) (Fn : FnR X.prog X.w X.K X.mg X.base (L2.CX X.prog X.w) k f (spV K ct.ad n G)) (tk : Takes X W) (hr : Room k X.A) (hg : Gl X x) (hm : X.mg x = some (.ref f)) (hk : PySem.W.keepIn X.K (.ref f) = true) (he : PE X e (TP K ct W m)) (nd : (x == ("__debug__" : Str)) = false := by decide)
    (hst : starEach [.Starred e sp_] X.env = [(true, eval e X.env)] := by rfl) : PE X (.Call (.Name x p) [.Starred e sp_] [] pos) (TP K ct W (evCallVS n G m)) := by
  subst eK
  exact (pe_callVS Fn hr hg hm hk (fun σ => passAt tk σ) he nd hst).imp fun σ H Q h => by
    obtain ⟨fr, F, ρ, S, h⟩ := h
    refine Tat.dat h S fun F1 H1 ρ1 v d s1 S1 r1 h => ?_
    have h : Tat X.K ct (RV X.K ct.ad) W fr F1 ρ1 (bnd (opt d.items) fun ds => callV n G ds) σ Q := h
    cases ed : d.items with
    | none => rw [ed] at h; obtain ⟨_, _, e, _⟩ := h; cases e
    | some ds =>
      rw [ed] at h
      obtain ⟨q, us, rfl, hs, k⟩ := r1.seq S1.fh ed
      exact ⟨q, us, rfl, hs.symm, Tat.callV h S1 k fun _ _ _ z => z⟩
end
end PL
end
section
/-! enumerate over a tuple -/
namespace OW
open PySem PySem.Spec PyProof.Rows L2
set_option maxHeartbeats 1200000 in
theorem enum1_new {v : Value} {o : Obj} {H : Heap → Prop} (B : Begins v o H) :
    Meets (Builtin.«enumerate.__new__» ⟨[.type "enumerate", v], []⟩) (fun _ R s => H s.heap ∧
      R (.ok (.ret (.ref (s.heap.push o).objs.size))) { s with heap := (s.heap.push o).push { cls := .type "enumerate", data := .fields #[.none, .bool false, .ref s.heap.objs.size, rawInt 0, .none, .none] } }) := .of_wp fun prog w A R s h => by
  obtain ⟨hp, gs, dd, tk, ost⟩ := s
  obtain ⟨h1, h⟩ := h
  have su := sub_enumerate
  have bi : ∀ {A' : Around} {E : Value → Shared → Prop} {Q : Value → Shared → Prop}, Q (.ref hp.objs.size) ⟨hp.push o, gs, dd, tk, ost⟩ → wpAny (model prog w) A' (pyIter v) Q E ⟨hp, gs, dd, tk, ost⟩ := fun q => B.iter prog w _ _ ⟨hp, gs, dd, tk, ost⟩ _ h1 q
  wp_walk using bi
  refine (wpAny_stack_any fun st => wpAny_pure ?_)
  split
  · rename_i c _ _ _ _ _
    rcases (c == Value.type "enumerate") with _ | _
    · wp_walk using bi
      exact ⟨_, rfl, h⟩
    · wp_walk using bi
      exact ⟨_, rfl, h⟩
  · wp_walk using bi
    exact ⟨_, rfl, h⟩
theorem enum1_call {prog : Program} {w : World} {A : Around} {E : Value → Shared → Prop} {s : Shared} {v : Value} {o : Obj} {H : Heap → Prop} {Q : Value → Shared → Prop} (B : Begins v o H) (h1 : H s.heap)
    (h : ∀ h', IsEnum h' (s.heap.objs.size + 1) s.heap.objs.size 0 .none → h'.get? s.heap.objs.size = some o → h'.objs.size = s.heap.objs.size + 2 → (∀ b ob, s.heap.get? b = some ob → h'.get? b = some ob) → Q (.ref (s.heap.objs.size + 1)) { s with heap := h' }) :
    wpAny (model prog w) A (call (.type "enumerate") [v]) Q E s := by
  refine callType_new F.called_enumerate (by decide) (F.typeCall_enumerate_1 _) (F.newCall_enumerate_1 _) (fun ob => F.args_object_init_2 ob _) F.entry_enumerate_new (enum1_new B) ⟨h1, ?_⟩
  have z : (s.heap.push o).objs.size = s.heap.objs.size + 1 := Heap.size_push ..
  show _ ∧ _
  rw [z]
  have e := Heap.get?_push_size (s.heap.push o) (o := { cls := .type "enumerate", data := .fields #[.none, .bool false, .ref s.heap.objs.size, rawInt 0, .none, .none] }) rfl
  rw [z] at e
  exact ⟨⟨_, e, rfl⟩, h _ e (Heap.get?_push_of_some _ (Heap.get?_push_size _ B.free)) (by rw [Heap.size_push, z]) fun b ob x => Heap.get?_push_of_some _ (Heap.get?_push_of_some _ x)⟩
theorem enumT_end {prog : Program} {w : World} {A : Around} {E : Value → Shared → Prop} {s : Shared} {e it l : Addr} {i : Nat} {c : Int} {items : Array Value} {old : Value} {Q : Option Value → Shared → Prop} (hh : A.handled = none)
    (he : IsEnum s.heap e it c old) (hit : s.heap.IsTupleIter it l i) (hl : s.heap.IsTuple l items) (hx : items[i]? = none) (hQ : ∀ h', Heap.ExtBut it s.heap h' → Q none { s with heap := h' }) : wpAny (model prog w) A (pyNext (.ref e)) Q E s := by
  have ty : s.TypeIs (.ref e) "enumerate" := ⟨_, he, rfl⟩
  unfold pyNext
  refine wpAny_bind (wpAny_attempt (wpAny_callSpecial?_slot (name := Str.ofString "__next__") ty F.slot_enumerate_next (wpAny_call_entry F.slot_enumerate_next ty F.entry_enumerate_next ?_ (F.args_enumerate_next_1 _))))
  show (wpAny _ _ (field (.ref e) 2 >>= _) _ _ _)
  refine wpAny_bind (wpAny_field he rfl (x := .ref it) rfl (wpAny_bind ?_))
  refine wpAny_nextOf_tuple_end hh hit hl hx fun h' x z zx => ?_
  obtain ⟨ob, ho, hc⟩ := zx
  exact wpAny_bind (wpAny_isInstance (T := "StopIteration") (b := true) ⟨ob, ho, hc⟩ isSubtype_stop (wpAny_pure (hQ _ z)))
/-- the tuple at a, each item in a new pair with its place -/
def ItE (K : PySem.W.Frag) (a : Addr) : It :=
  ⟨fun i H => ∃ (xs : List V) (x : V), SqT K H a xs ∧ xs[i]? = some x, fun i H v H' => ∃ T x, v = .ref T ∧ H T = none ∧ H' = upd H T (.tup [.int (i : Nat), x]) ∧ ∀ xs, SqT K H a xs → xs[i]? = some x, fun i H => ∃ xs : List V, SqT K H a xs ∧ xs.length ≤ i⟩
theorem turn_enumT {P : Program} {w : World} {K : PySem.W.Frag} {elts : List Expr} {kk : Nat} {tpos : Pos} (a e it : Addr) :
    Turn P w K (.Tuple elts kk tpos) (ItE K a) [e, it] e (fun i h => (∃ old, IsEnum h e it ((i : Nat) : Int) old) ∧ h.IsTupleIter it a i ∧ e ≠ it ∧ a ≠ it ∧ a ≠ e) where
  mem := by simp
  obj := fun n hp0 z0 b mb => by
    obtain ⟨⟨v0, ie⟩, ⟨ob, g1, g2, g3⟩, _⟩ := z0
    rcases (show b = e ∨ b = it by simpa using mb) with rfl | rfl
    · exact ⟨_, ie, fun v z => nomatch z⟩
    · exact ⟨ob, g1, fun v z => by rw [g3] at z; cases z⟩
  keep := fun n hp0 hp1 z0 kp => by
    obtain ⟨⟨v0, ie⟩, ti, ap⟩ := z0
    exact ⟨⟨v0, kp e (by simp) _ ie⟩, ti.at fun ob z => kp it (by simp) ob z, ap⟩
  item := by
    intro X eP ew eK cm i pn s σ H E I hf z0 hg
    subst eP ew eK
    obtain ⟨⟨v0, he⟩, hit, ne1, ne2, ne3⟩ := z0
    obtain ⟨xs, x, hq, hx⟩ := hg
    obtain ⟨its, rv, p, _⟩ := (I.tuple hq)
    obtain ⟨u, hu, ru⟩ := (rv.get hx)
    have le1 : e < s.heap.objs.size := Heap.lt_size he
    have le2 : it < s.heap.objs.size := by obtain ⟨_, q, _⟩ := hit; exact Heap.lt_size q
    have p : s.heap.IsTuple a its.toArray := p
    have D := Draws.tuple (prog := X.prog) (w := X.w) (A := X.A.in1) (I.ok.hd cm) it a ne2 its.toArray
    refine wpAny_pyNext_enum_itemD D he ⟨hit, p⟩ (by simpa using (List.getElem?_eq_some_iff.mp hu).1) ne1 (by simp [ne1, Ne.symm ne3]) fun y h' tk hy ho ⟨hit', _⟩ hT hs hk => ?_
    have ey : y = u := by
      have hy : its.toArray[i]? = some y := hy
      rw [show its.toArray[i]? = some u by simpa using hu] at hy
      exact (Option.some.inj hy).symm
    subst ey
    refine ⟨_, rfl, wpAny_letOwnedTupleGo_enum (s := { s with heap := h', toks := tk + 1 }) ho fun h2 he2 sb => ?_⟩
    have hT2 : h2.get? s.heap.objs.size = some { cls := .type "tuple", data := .seq #[.int i tk, y] } := (sb.2 _ (Nat.ne_of_gt le1)).trans hT
    have new : ObjOk X.prog X.w (upd H s.heap.objs.size (.tup [.int (i : Nat), x])) h2 s.heap.objs.size (.tup [.int (i : Nat), x]) :=
      ⟨by show 2 ≤ sizeLine; decide, [.int i tk, y], .cons ⟨_, rfl⟩ (.cons ru .nil), ⟨_, hT2, rfl, _, rfl⟩⟩
    have I1 : Inv X pn σ (upd H s.heap.objs.size (.tup [.int (i : Nat), x])) { s with heap := h2, toks := tk + 1 } :=
      I.turnedNew (ch := [e, it]) (fun b ob nb q => by
        have n1 : b ≠ e := fun z => nb (by simp [z])
        exact (sb.2 b n1).trans (hk b ob n1 (fun z => nb (by simp [z])) q)) hf (Nat.le_refl _) new
    refine ⟨.ref s.heap.objs.size, _, I1, rfl, ⟨_, x, rfl, I.hok.fresh (Nat.le_refl _), rfl, fun ys hy => by rw [I.tuple_inj hy hq]; exact hx⟩, ⟨⟨y, ?_⟩, hit'.at fun o q => (sb.2 it (Ne.symm ne1)).trans q, ne1, ne2, ne3⟩, fun b hb => ?_⟩
    · rw [show ((i + 1 : Nat) : Int) = (i : Int) + 1 by omega]
      exact he2
    · have lb : b < s.heap.objs.size := by
        rcases (show b = e ∨ b = it by simpa using hb) with z | z
        · rw [z]; exact le1
        · rw [z]; exact le2
      rw [upd_ne (Nat.ne_of_lt lb)]
      exact (hf b hb).1
  done := by
    intro X eP ew eK cm i pn s σ H E I hf z0 hg
    subst eP ew eK
    obtain ⟨⟨v0, he⟩, hit, ne1, ne2, ne3⟩ := z0
    obtain ⟨xs, hq, hx⟩ := hg
    obtain ⟨its, rv, p, _⟩ := (I.tuple hq)
    obtain ⟨f0, f1, _, f3, f4, f5⟩ := (hf it (by simp))
    have hl := rv.length
    have p : s.heap.IsTuple a its.toArray := p
    exact enumT_end (I.ok.hd cm) he hit p (by simp; omega) fun h' eb => ⟨rfl, I.turned (t' := s.toks) (fun b o hb q => eb b o hb q) f0 f1 f3 f4 f5⟩
  self := fun _ _ _ _ _ z0 kk => wpAny_pyIter_enum z0.1.choose_spec kk
def iEnumT (K : PySem.W.Frag) (ta : TA) : TI := fun σ H R => ta σ H fun vs H1 => ∃ a xs, vs = [.ref a] ∧ SqT K H1 a xs ∧ R (ItE K a) H1
theorem pi_enumT {X : Cx} {e : Expr} {ta : TA} {p pos tpos : Pos} {elts : List Expr} {kk : Nat} (hg : Gl X "enumerate") (hm : X.mg "enumerate" = none) (ha : PA X [e] ta) (hs : starEach [e] X.env = [(false, eval e X.env)] := by rfl) :
    PI X (.Tuple elts kk tpos) (.Call (.Name "enumerate" p) [e] [] pos) (iEnumT X.K ta) := by
  refine ⟨fun pn s σ H R I h => ?_⟩
  have arg := ha.run pos pn s σ H _ I h
  refine Call_ (ld_blt I hg hm boot_enumerate (PyProof.Rows.callWith_type1 (thn arg fun us s1 ⟨vs, H1, I1, r1, q1⟩ => ?_) hs rfl))
  obtain ⟨a, xs, rfl, hq, q⟩ := q1
  cases r1 with
  | cons r rr =>
    cases rr
    cases r
    obtain ⟨its, rv, p', _⟩ := (I1.tuple hq)
    have p' : s1.heap.IsTuple a its.toArray := p'
    have la : a < s1.heap.objs.size := by obtain ⟨_, z, _⟩ := p'; exact Heap.lt_size z
    refine enum1_call (begins_tuple a its.toArray) p' fun h' he hit hsz hk => wpAny_pyIter_enum he ?_
    have inv : Inv X pn σ H1 { s1 with heap := h' } := (I1.kept (t' := s1.toks) hk)
    refine ⟨s1.heap.objs.size + 1, [s1.heap.objs.size + 1, s1.heap.objs.size], _, _, H1, rfl, inv, turn_enumT a (s1.heap.objs.size + 1) s1.heap.objs.size, ⟨⟨.none, he⟩, ⟨_, hit, rfl, rfl⟩, Nat.succ_ne_self _, Nat.ne_of_lt la, Nat.ne_of_lt (Nat.lt_succ_of_lt la)⟩, fun b hb => ?_, q⟩
    have lb : s1.heap.objs.size ≤ b := by
      rcases (show b = s1.heap.objs.size + 1 ∨ b = s1.heap.objs.size by simpa using hb) with z | z
      · subst z; exact (Nat.le_add_right _ _)
      · subst z; exact Nat.le_refl _
    exact I1.fpOk lb (I1.hok.fresh lb)
/-! the sum of a tuple of ints -/
def rSumT (K : PySem.W.Frag) : List V → Hp → VK → Prop := fun vs H Q => ∃ (a : Addr) (ns : List Int), vs = [V.ref a] ∧ SqT K H a (ns.map V.int) ∧ Q (.int ns.sum) H
theorem cr_sumT {X : Cx} (hc : X.calm = true) : CallR X (.builtin "sum") (rSumT X.K) := by
  intro pins s σ H vs us Q I r ⟨a, ns, e, hs, q⟩
  subst e
  obtain ⟨its, rv, p, _⟩ := I.tuple hs
  have p : s.heap.IsTuple a its.toArray := p
  rw [Vals.ref1 r]
  obtain ⟨xs, ex⟩ := rv.ints.allInts.items
  have en : numsOf (intItems xs).toList = ns := by
    rw [← ex]
    exact rv.ints.numsOf
  rw [nums_intItems] at en
  rw [ex] at p
  refine PySem.W.ktm_sumG (I.ok.hd hc) p fun h' tk t' hk => ⟨.int _, H, I.kept hk, ⟨t', ?_⟩, q⟩
  rw [preSum_eq, List.take_of_length_le (by simp), en]
end OW
namespace PL
open PySem PySem.Spec PyProof.Rows L2
variable {K : PySem.W.Frag} {ct : CT} {W : WX} {F : Hp} {X : Cx}
/-- each item with its place -/
def enumD (xs : List D) : List D := xs.zipIdx.map fun p => .tup [.int (p.2 : Int), p.1]
def itET (e : Ev) : M (List D) := bnd (dat e) fun d => match d with | .tup xs => pur (enumD xs) | _ => fai
theorem it_enumT {a : Addr} {vs : List V} {xs : List D} (h : SqT K F a vs) (r : Rps K ct.ad F vs xs) : ItOk K ct.ad F (enumD xs) (OW.ItE K a) := by
  intro F1 H1 s1 s2 i
  have h1 : SqT K H1 a vs := sameT (s1.trans s2) h
  refine ⟨fun x e => ?_, fun l => ⟨vs, h1, by unfold enumD at l; rw [List.length_map, List.length_zipIdx] at l; rw [r.len]; exact l⟩⟩
  unfold enumD at e
  rw [List.getElem?_map, List.getElem?_zipIdx] at e
  cases ed : xs[i]? with
  | none => rw [ed] at e; cases e
  | some d =>
    rw [ed] at e
    cases e
    obtain ⟨v, e1, e2⟩ := r.get ed
    refine ⟨⟨vs, v, h1, e1⟩, fun u H2 y => ?_⟩
    obtain ⟨T, z, rfl, hT, rfl, hz⟩ := y
    have hz := hz vs h1
    rw [e1] at hz
    cases hz
    have fT : F1 T = none := by
      cases q : F1 T with
      | none => rfl
      | some o => rw [s2 _ _ q] at hT; cases hT
    have up := same_up fT (o := .tup [.int (i : Nat), v])
    refine ⟨upd F1 T (.tup [.int (i : Nat), v]), ⟨up, same_up hT, ?_, fun b hb fb => ?_⟩, ?_⟩
    · intro b o q
      by_cases c : b = T
      · subst c; rw [upd_same] at q; rw [upd_same]; exact q
      · rw [upd_ne c] at q; rw [upd_ne c]; exact s2 _ _ q
    · rw [upd_ne (fun q => hb (by rw [q]; exact hT))]
      exact fb
    · exact Rp.tup (SqT.of upd_same) (.cons (by simp only [Nat.zero_add]; exact .int _) (.cons ((e2.mono s1).mono up) .nil))
theorem pi_eT {e : Expr} {elts : List Expr} {kk : Nat} {p pos tpos : Pos} {m : Ev} (eK : X.K = K) (hg : Gl X "enumerate") (hm : X.mg "enumerate" = none) (he : PE X e (TP K ct W m)) (hs : starEach [e] X.env = [(false, eval e X.env)] := by rfl) :
    PI X (.Tuple elts kk tpos) (.Call (.Name "enumerate" p) [e] [] pos) (TIt K ct W (itET m)) := by
  subst eK
  refine (OW.pi_enumT hg hm (pa_cons he pa_nil (by rw [hs]; rfl)) hs).imp fun σ H R h => ?_
  obtain ⟨fr, F, ρ, S, h⟩ := h
  refine Tat.dat h S fun F1 H1 ρ1 v d s1 S1 r1 h => ?_
  cases d with
  | tup xs =>
    cases r1 with
    | tup h1 k =>
      have h : Tat X.K ct (RI X.K ct.ad) W fr F1 ρ1 (pur (enumD xs)) σ R := h
      exact ⟨_, _, rfl, sameT S1.fh h1, h.ok _ F1 H1 (Same.refl _) S1 (it_enumT h1 k)⟩
  | _ => obtain ⟨_, _, e, _⟩ := h; cases e
def itEL (e : Ev) : M (List D) := bnd (dat e) fun d => match d with | .lst xs => pur (enumD xs) | .sq xs => pur (enumD xs) | _ => fai
theorem it_enumL {a : Addr} {vs : List V} {xs : List D} (h : SqL K F a vs) (r : Rps K ct.ad F vs xs) : ItOk K ct.ad F (enumD xs) (Ite K a) := by
  intro F1 H1 s1 s2 i
  have h1 : SqL K H1 a vs := (s1.trans s2).seq h
  refine ⟨fun x e => ?_, fun l => ⟨vs, h1, by unfold enumD at l; rw [List.length_map, List.length_zipIdx] at l; rw [r.len]; exact l⟩⟩
  unfold enumD at e
  rw [List.getElem?_map, List.getElem?_zipIdx] at e
  cases ed : xs[i]? with
  | none => rw [ed] at e; cases e
  | some d =>
    rw [ed] at e
    cases e
    obtain ⟨v, e1, e2⟩ := r.get ed
    refine ⟨⟨vs, v, h1, e1⟩, fun u H2 y => ?_⟩
    obtain ⟨T, z, rfl, hT, rfl, hz⟩ := y
    have hz := hz vs h1
    rw [e1] at hz
    cases hz
    have fT : F1 T = none := by
      cases q : F1 T with
      | none => rfl
      | some o => rw [s2 _ _ q] at hT; cases hT
    have up := same_up fT (o := .tup [.int (i : Nat), v])
    refine ⟨upd F1 T (.tup [.int (i : Nat), v]), ⟨up, same_up hT, ?_, fun b hb fb => ?_⟩, ?_⟩
    · intro b o q
      by_cases c : b = T
      · subst c; rw [upd_same] at q; rw [upd_same]; exact q
      · rw [upd_ne c] at q; rw [upd_ne c]; exact s2 _ _ q
    · rw [upd_ne (fun q => hb (by rw [q]; exact hT))]
      exact fb
    · exact Rp.tup (SqT.of upd_same) (.cons (by simp only [Nat.zero_add]; exact .int _) (.cons ((e2.mono s1).mono up) .nil))
theorem pi_eL {e : Expr} {elts : List Expr} {kk : Nat} {p pos tpos : Pos} {m : Ev} (eK : X.K = K) (hg : Gl X "enumerate") (hm : X.mg "enumerate" = none) (he : PE X e (TP K ct W m)) (hs : starEach [e] X.env = [(false, eval e X.env)] := by rfl) :
    PI X (.Tuple elts kk tpos) (.Call (.Name "enumerate" p) [e] [] pos) (TIt K ct W (itEL m)) := by
  subst eK
  refine (pi_enum hg hm (pa_cons he pa_nil (by rw [hs]; rfl)) hs).imp fun σ H R h => ?_
  obtain ⟨fr, F, ρ, S, h⟩ := h
  refine Tat.dat h S fun F1 H1 ρ1 v d s1 S1 r1 h => ?_
  cases d with
  | lst xs =>
    cases r1 with
    | lst h1 k =>
      have h : Tat X.K ct (RI X.K ct.ad) W fr F1 ρ1 (pur (enumD xs)) σ R := h
      exact ⟨_, _, rfl, SqL.of (S1.fh _ _ h1), h.ok _ F1 H1 (Same.refl _) S1 (it_enumL (SqL.of h1) k)⟩
  | sq xs =>
    cases r1 with
    | sq h1 k =>
      have h : Tat X.K ct (RI X.K ct.ad) W fr F1 ρ1 (pur (enumD xs)) σ R := h
      exact ⟨_, _, rfl, S1.fh.seq h1, h.ok _ F1 H1 (Same.refl _) S1 (it_enumL h1 k)⟩
  | _ => obtain ⟨_, _, e, _⟩ := h; cases e
def tints (d : D) : Option (List Int) := d.titems.bind D.ints
def gSumT : List D → Option D | [d] => (tints d).map fun ns => .int ns.sum | _ => none
theorem tints_i {d : D} {ns : List Int} (h : tints d = some ns) : ∃ xs, d.titems = some xs ∧ D.ints xs = some ns := by
  unfold tints at h
  cases e : d.titems with
  | none => rw [e] at h; exact nomatch h
  | some xs => rw [e] at h; exact ⟨xs, rfl, h⟩
theorem ob_sumT {ad : Cl → Addr} : OB K ad (OW.rSumT K) gSumT := by
  intro F H vs ds z Q s r e q _
  unfold gSumT at e
  split at e
  · rename_i d
    obtain ⟨ns, e1, rfl⟩ := map_some e
    obtain ⟨v, rfl, rv⟩ := one_i r
    obtain ⟨xs, g1, g2⟩ := tints_i e1
    cases d <;> cases g1
    cases rv with
    | tup h1 k =>
      rw [D.ints_eq g2] at k
      rw [k.ints] at h1
      exact ⟨_, ns, rfl, sameT s h1, q _ (.int _)⟩
  · cases e
/-! how often a text lies in another -/
def evCnt (o e : Ev) : Ev := bnd (dat o) fun x => match x with
  | .str a => bnd (dat e) fun y => match y with
    | .str b => pur (.d (.int (Txt.count a b)))
    | _ => fai
  | _ => fai
theorem pp_cnt {o e : Expr} {fo fe : Ev} {apos pos : Pos} (ho : PE X o (TP K ct W fo)) (he : PE X e (TP K ct W fe)) (hs : starEach [e] X.env = [(false, eval e X.env)] := by rfl) (hbase : attributeBase o "count" X.env (eval o X.env) = eval o X.env := by rfl) (hline : (apos.endLine == pos.line) = true := by rfl)
    (hfew : ((backTo pos (starEach [e] X.env)).all (fun x => !x.1) && (backToKw pos (keywordEach [] X.env)).all (fun x => x.1.isSome) && decide ([e].length + ([] : List Keyword).length + (if ([] : List Keyword).isEmpty then 0 else 1) < 30)) = true := by rfl) :
    PE X (.Call (.Attribute o "count" apos) [e] [] pos) (TP K ct W (evCnt fo fe)) := (pe_bm PySem.F.plainAttrs_str PySem.F.slot_str_count PySem.F.type_str_count mt_count ho (pa_cons he pa_nil (by rw [hs]; rfl)) hbase hfew hline hs rfl).imp fun σ H Q h => by
  obtain ⟨fr, F, ρ, S, h⟩ := h
  refine Tat.dat h S fun F1 H1 ρ1 v d s1 S1 r1 h => ?_
  have sv : ∃ a, d = .str a := by
    cases d with
    | str a => exact ⟨a, rfl⟩
    | _ => obtain ⟨_, _, z, _⟩ := h; cases z
  obtain ⟨a, rfl⟩ := sv
  cases r1
  refine ⟨rfl, ?_⟩
  refine Tat.dat h S1 fun F2 H2 ρ2 u y s2 S2 r2 h => ?_
  have su : ∃ b, y = .str b := by
    cases y with
    | str b => exact ⟨b, rfl⟩
    | _ => obtain ⟨_, _, z, _⟩ := h; cases z
  obtain ⟨b, rfl⟩ := su
  cases r2
  exact ⟨a, b, rfl, rfl, h.ok _ F2 H2 (Same.refl _) S2 (.int _)⟩
/-! zip of two lists, of two tuples -/
def zipD (xs ys : List D) : List D := (xs.zip ys).map fun p => .tup [p.1, p.2]
theorem zipD_at {xs ys : List D} {i : Nat} {x : D} (e : (zipD xs ys)[i]? = some x) : ∃ a b, xs[i]? = some a ∧ ys[i]? = some b ∧ x = .tup [a, b] := by
  unfold zipD at e
  rw [List.getElem?_map] at e
  obtain ⟨p, e1, e2⟩ := Option.map_eq_some_iff.mp e
  obtain ⟨h1, h2⟩ := List.getElem?_zip_eq_some.mp e1
  exact ⟨p.1, p.2, h1, h2, e2.symm⟩
theorem al_new {F1 H1 : Hp} {T : Addr} {o : HO} (s2 : Same F1 H1) (hT : H1 T = none) : Al F1 H1 (upd F1 T o) (upd H1 T o) ∧ Same F1 (upd F1 T o) := by
  have fT : F1 T = none := by
    cases q : F1 T with
    | none => rfl
    | some o => rw [s2 _ _ q] at hT; cases hT
  refine ⟨⟨same_up fT, same_up hT, fun b u q => ?_, fun b hb fb => ?_⟩, same_up fT⟩
  · by_cases c : b = T
    · subst c; rw [upd_same] at q; rw [upd_same]; exact q
    · rw [upd_ne c] at q; rw [upd_ne c]; exact s2 _ _ q
  · rw [upd_ne (fun q => hb (by rw [q]; exact hT))]
    exact fb
theorem it_zipL {a b : Addr} {vs us : List V} {xs ys : List D} (h : SqL K F a vs) (r : Rps K ct.ad F vs xs) (h' : SqL K F b us) (r' : Rps K ct.ad F us ys) : ItOk K ct.ad F (zipD xs ys) (Itz K a b) := by
  intro F1 H1 s1 s2 i
  have h1 : SqL K H1 a vs := (s1.trans s2).seq h
  have h2 : SqL K H1 b us := (s1.trans s2).seq h'
  refine ⟨fun x e => ?_, fun l => ⟨vs, us, h1, h2, by unfold zipD at l; rw [List.length_map, List.length_zip] at l; rw [r.len, r'.len]; omega⟩⟩
  obtain ⟨d, d', ed, ed', rfl⟩ := zipD_at e
  obtain ⟨v, e1, e2⟩ := r.get ed
  obtain ⟨v', e1', e2'⟩ := r'.get ed'
  refine ⟨⟨vs, us, v, v', h1, h2, e1, e1'⟩, fun u H2 y => ?_⟩
  obtain ⟨T, z, z', rfl, hT, rfl, hz, hz'⟩ := y
  have hz := hz vs h1
  have hz' := hz' us h2
  rw [e1] at hz
  rw [e1'] at hz'
  cases hz
  cases hz'
  obtain ⟨al, up⟩ := al_new (o := .tup [v, v']) s2 hT
  exact ⟨_, al, Rp.tup (SqT.of upd_same) (.cons ((e2.mono s1).mono up) (.cons ((e2'.mono s1).mono up) .nil))⟩
theorem it_zipT {a b : Addr} {vs us : List V} {xs ys : List D} (h : SqT K F a vs) (r : Rps K ct.ad F vs xs) (h' : SqT K F b us) (r' : Rps K ct.ad F us ys) : ItOk K ct.ad F (zipD xs ys) (RZ.ItzT K a b) := by
  intro F1 H1 s1 s2 i
  have h1 : SqT K H1 a vs := sameT (s1.trans s2) h
  have h2 : SqT K H1 b us := sameT (s1.trans s2) h'
  refine ⟨fun x e => ?_, fun l => ⟨vs, us, h1, h2, by unfold zipD at l; rw [List.length_map, List.length_zip] at l; rw [r.len, r'.len]; omega⟩⟩
  obtain ⟨d, d', ed, ed', rfl⟩ := zipD_at e
  obtain ⟨v, e1, e2⟩ := r.get ed
  obtain ⟨v', e1', e2'⟩ := r'.get ed'
  refine ⟨⟨vs, us, v, v', h1, h2, e1, e1'⟩, fun u H2 y => ?_⟩
  obtain ⟨T, z, z', rfl, hT, rfl, hz, hz'⟩ := y
  have hz := hz vs h1
  have hz' := hz' us h2
  rw [e1] at hz
  rw [e1'] at hz'
  cases hz
  cases hz'
  obtain ⟨al, up⟩ := al_new (o := .tup [v, v']) s2 hT
  exact ⟨_, al, Rp.tup (SqT.of upd_same) (.cons ((e2.mono s1).mono up) (.cons ((e2'.mono s1).mono up) .nil))⟩
def itZ (a b : Ev) : M (List D) := bnd (dat a) fun x => bnd (dat b) fun y => match x, y with
  | .lst xs, .lst ys => pur (zipD xs ys)
  | .tup xs, .tup ys => pur (zipD xs ys)
  | _, _ => fai
theorem pi_z {e e2 : Expr} {elts : List Expr} {kk : Nat} {p pos tpos : Pos} {m n : Ev} (eK : X.K = K) (hg : Gl X "zip") (hm : X.mg "zip" = none) (he : PE X e (TP K ct W m)) (he2 : PE X e2 (TP K ct W n))
    (hs : starEach [e, e2] X.env = [(false, eval e X.env), (false, eval e2 X.env)] := by rfl) (hs2 : starEach [e2] X.env = [(false, eval e2 X.env)] := by rfl) :
    PI X (.Tuple elts kk tpos) (.Call (.Name "zip" p) [e, e2] [] pos) (TIt K ct W (itZ m n)) := by
  subst eK
  refine (RZ.pi_zipA hg hm (pa_cons he (pa_cons he2 pa_nil (by rw [hs2]; rfl)) (by rw [hs, hs2])) (by rw [hs, hs2]) (by rw [hs2]; rfl)).imp fun σ H R h => ?_
  obtain ⟨fr, F, ρ, S, h⟩ := h
  refine Tat.dat h S fun F1 H1 ρ1 v d s1 S1 r1 h => ?_
  refine Tat.dat h S1 fun F2 H2 ρ2 u d2 s2 S2 r2 h => ?_
  have r1 := r1.mono s2
  cases d with
  | lst xs =>
    cases d2 with
    | lst ys =>
      cases r1 with
      | lst h1 k1 =>
        cases r2 with
        | lst h2 k2 =>
          have h : Tat X.K ct (RI X.K ct.ad) W fr F2 ρ2 (pur (zipD xs ys)) σ R := h
          exact ⟨_, _, _, _, rfl, .inl ⟨SqL.of (S2.fh _ _ h1), SqL.of (S2.fh _ _ h2), h.ok _ F2 H2 (Same.refl _) S2 (it_zipL (SqL.of h1) k1 (SqL.of h2) k2)⟩⟩
    | _ => obtain ⟨_, _, z, _⟩ := h; cases z
  | tup xs =>
    cases d2 with
    | tup ys =>
      cases r1 with
      | tup h1 k1 =>
        cases r2 with
        | tup h2 k2 =>
          have h : Tat X.K ct (RI X.K ct.ad) W fr F2 ρ2 (pur (zipD xs ys)) σ R := h
          exact ⟨_, _, _, _, rfl, .inr ⟨sameT S2.fh h1, sameT S2.fh h2, h.ok _ F2 H2 (Same.refl _) S2 (it_zipT h1 k1 h2 k2)⟩⟩
    | _ => obtain ⟨_, _, z, _⟩ := h; cases z
  | _ => obtain ⟨_, _, z, _⟩ := h; cases z
/-! range with a step -/
def rng3D (lo c : Int) (n : Nat) : List D := (List.range n).map fun (i : Nat) => .int (lo + i * c)
theorem it_rng3 {lo c : Int} {n : Nat} : ItOk K ct.ad F (rng3D lo c n) (Itc lo c n) := by
  intro F1 H1 s1 s2 i
  refine ⟨fun x e => ?_, fun l => by unfold rng3D at l; rw [List.length_map, List.length_range] at l; exact l⟩
  unfold rng3D at e
  rw [List.getElem?_map] at e
  obtain ⟨j, e1, rfl⟩ := Option.map_eq_some_iff.mp e
  obtain ⟨l, e3⟩ := List.getElem?_eq_some_iff.mp e1
  rw [List.length_range] at l
  rw [List.getElem_range] at e3
  subst e3
  refine ⟨l, fun v H2 ⟨y1, y2⟩ => ?_⟩
  subst y1 y2
  exact ⟨F1, Al.refl s2, .int _⟩
/-- what a range may be -/
def stepOk (i j c : Int) : Prop := c ≠ 0 ∧ c.natAbs < 1073741824 ∧ Builtin.Range.small i j c = true ∧ 0 ≤ Builtin.Range.rangeSize i j c
instance {i j c : Int} : Decidable (stepOk i j c) := by unfold stepOk; exact inferInstance
def itR3 (a b c : Ev) : M (List D) := bnd (dat a) fun x => bnd (dat b) fun y => bnd (dat c) fun z => match x, y, z with
  | .int i, .int j, .int k => if stepOk i j k then pur (rng3D i k (Builtin.Range.rangeSize i j k).toNat) else fai
  | _, _, _ => fai
theorem pi_r3 {tg a b c : Expr} {p pos : Pos} {m n o : Ev} (hg : Gl X "range") (hm : X.mg "range" = none) (ha : PE X a (TP K ct W m)) (hb : PE X b (TP K ct W n)) (hc : PE X c (TP K ct W o))
    (hs : starEach [a, b, c] X.env = [(false, eval a X.env), (false, eval b X.env), (false, eval c X.env)] := by rfl) (hs2 : starEach [b, c] X.env = [(false, eval b X.env), (false, eval c X.env)] := by rfl) (hs3 : starEach [c] X.env = [(false, eval c X.env)] := by rfl) :
    PI X tg (.Call (.Name "range" p) [a, b, c] [] pos) (TIt K ct W (itR3 m n o)) := by
  refine (pi_range3 hg hm (pa_cons ha (pa_cons hb (pa_cons hc pa_nil (by rw [hs3]; rfl)) (by rw [hs2, hs3])) (by rw [hs, hs2])) (by rw [hs, hs2]) (by rw [hs2]; rfl)).imp fun σ H R h => ?_
  obtain ⟨fr, F, ρ, S, h⟩ := h
  refine Tat.dat h S fun F1 H1 ρ1 v d s1 S1 r1 h => ?_
  refine Tat.dat h S1 fun F2 H2 ρ2 u d2 s2 S2 r2 h => ?_
  refine Tat.dat h S2 fun F3 H3 ρ3 t d3 s3 S3 r3 h => ?_
  have sv : ∃ i j k, d = .int i ∧ d2 = .int j ∧ d3 = .int k := by
    cases d <;> cases d2 <;> cases d3 <;> first | exact ⟨_, _, _, rfl, rfl, rfl⟩ | (obtain ⟨_, _, z, _⟩ := h; exact nomatch z)
  obtain ⟨i, j, k, rfl, rfl, rfl⟩ := sv
  cases r1
  cases r2
  cases r3
  have h : Tat K ct (RI K ct.ad) W fr F3 ρ3 (if stepOk i j k then pur (rng3D i k (Builtin.Range.rangeSize i j k).toNat) else fai) σ R := h
  split at h
  · rename_i q
    exact ⟨i, j, k, _, rfl, ⟨q.1, q.2.1, q.2.2.1, (Int.toNat_of_nonneg q.2.2.2).symm⟩, Tat.ok h _ F3 H3 (Same.refl _) S3 it_rng3⟩
  · obtain ⟨_, _, z, _⟩ := h; exact nomatch z
end PL
end
section
namespace PL
open PySem PySem.Spec PyProof.Rows L2
/-! ### a comprehension that goes into a name which another comprehension reads: no exchange of stores -/
theorem sw_no {elt : Expr} {gs : List Comprehension} {scope : Scope} {pos py : Pos} {y : Str} {l : Nat} {env : Env} (hy : env.scope.names.lookup y = some .cell) : swapsWith (.ListComp elt gs scope pos) (some (.Name y py)) l env = pure false := by
  have ky : env.kindOf y = some .cell := hy
  unfold swapsWith
  simp only [ky]
  have e : (some NameKind.cell == some NameKind.local) = false := by decide
  simp only [e, Bool.and_false, Bool.false_and]
/-! ### t[::2], t[1::2], t[::-1] of a tuple -/
def evs {α : Type} : List α → List α | [] => [] | [a] => [a] | a :: _ :: r => a :: evs r
def ods {α : Type} : List α → List α | [] => [] | [_] => [] | _ :: b :: r => b :: ods r
theorem evs_len {α : Type} : ∀ xs : List α, (evs xs).length = (xs.length + 1) / 2
  | [] => by simp [evs]
  | [_] => by simp [evs]
  | _ :: _ :: r => by rw [evs, List.length_cons, evs_len r, List.length_cons, List.length_cons]; omega
theorem ods_len {α : Type} : ∀ xs : List α, (ods xs).length = xs.length / 2
  | [] => by simp [ods]
  | [_] => by simp [ods]
  | _ :: _ :: r => by rw [ods, List.length_cons, ods_len r, List.length_cons, List.length_cons]; omega
theorem evs_get {α : Type} : ∀ (xs : List α) (k : Nat), (evs xs)[k]? = xs[2 * k]?
  | [], k => by simp [evs]
  | [a], 0 => rfl
  | [a], k + 1 => by rw [evs, List.getElem?_cons_succ, List.getElem?_nil, List.getElem?_eq_none (by simp; omega)]
  | a :: b :: r, 0 => rfl
  | a :: b :: r, k + 1 => by rw [evs, List.getElem?_cons_succ, evs_get r k, show 2 * (k + 1) = 2 * k + 1 + 1 by omega, List.getElem?_cons_succ, List.getElem?_cons_succ]
theorem ods_get {α : Type} : ∀ (xs : List α) (k : Nat), (ods xs)[k]? = xs[2 * k + 1]?
  | [], k => by simp [ods]
  | [a], k => by rw [ods, List.getElem?_nil, List.getElem?_eq_none (by simp)]
  | a :: b :: r, 0 => rfl
  | a :: b :: r, k + 1 => by rw [ods, List.getElem?_cons_succ, ods_get r k, show 2 * (k + 1) + 1 = 2 * k + 1 + 1 + 1 by omega, List.getElem?_cons_succ, List.getElem?_cons_succ]
theorem fm_get {α : Type} {xs ys : List α} {f : Nat → Nat} (h : ∀ k, k < ys.length → xs[f k]? = ys[k]?) : (List.range ys.length).filterMap (fun k => xs[f k]?) = ys := by
  have go : ∀ n, n ≤ ys.length → (List.range n).filterMap (fun k => xs[f k]?) = ys.take n := by
    intro n
    induction n with
    | zero => intro _; rfl
    | succ n ih =>
      intro hn
      rw [List.range_succ, List.filterMap_append, ih (by omega), List.take_add_one, List.filterMap_cons, List.filterMap_nil, h n (by omega)]
      cases ys[n]? <;> rfl
  rw [go _ (Nat.le_refl _), List.take_length]
/-- which slice with a step -/
inductive StK | ev | od | rv
def StK.lo : StK → Option Int | .od => some 1 | _ => none
def StK.st : StK → Int | .rv => -1 | _ => 2
def StK.ap {α : Type} (k : StK) (xs : List α) : List α := match k with | .ev => evs xs | .od => ods xs | .rv => xs.reverse
theorem StK.len {α : Type} (k : StK) (xs : List α) : (k.ap xs).length ≤ xs.length := by
  cases k with
  | ev => show (evs xs).length ≤ _; rw [evs_len]; omega
  | od => show (ods xs).length ≤ _; rw [ods_len]; omega
  | rv => show xs.reverse.length ≤ _; rw [List.length_reverse]; omega
theorem StK.pick {α : Type} (k : StK) (xs : List α) :
    (List.range (Builtin.Slice.slicePlaces (Builtin.Slice.sliceAdjust k.lo none k.st xs.length).1 (Builtin.Slice.sliceAdjust k.lo none k.st xs.length).2 k.st)).filterMap (fun (m : Nat) => xs[((Builtin.Slice.sliceAdjust k.lo none k.st xs.length).1 + (m : Int) * k.st).toNat]?) = k.ap xs := by
  have key : ∀ (a : Int) (s : Int) (n : Nat) (ys : List α), n = ys.length → (∀ m, m < ys.length → xs[(a + (m : Int) * s).toNat]? = ys[m]?) → (List.range n).filterMap (fun (m : Nat) => xs[(a + (m : Int) * s).toNat]?) = ys := by
    intro a s n ys e h
    subst e
    exact fm_get (f := fun m => (a + (m : Int) * s).toNat) h
  cases k with
  | ev =>
    refine key _ _ _ _ ?_ fun m hm => ?_
    · show Builtin.Slice.slicePlaces (Builtin.Slice.sliceAdjust none none 2 (xs.length : Int)).1 (Builtin.Slice.sliceAdjust none none 2 (xs.length : Int)).2 2 = (evs xs).length
      rw [evs_len]
      unfold Builtin.Slice.sliceAdjust Builtin.Slice.slicePlaces
      simp
      split <;> omega
    · show xs[((Builtin.Slice.sliceAdjust none none 2 (xs.length : Int)).1 + (m : Int) * 2).toNat]? = (evs xs)[m]?
      rw [evs_get]
      congr 1
      (unfold Builtin.Slice.sliceAdjust; simp; omega)
  | od =>
    refine key _ _ _ _ ?_ fun m hm => ?_
    · show Builtin.Slice.slicePlaces (Builtin.Slice.sliceAdjust (some 1) none 2 (xs.length : Int)).1 (Builtin.Slice.sliceAdjust (some 1) none 2 (xs.length : Int)).2 2 = (ods xs).length
      rw [ods_len]
      unfold Builtin.Slice.sliceAdjust Builtin.Slice.slicePlaces
      simp
      split <;> omega
    · show xs[((Builtin.Slice.sliceAdjust (some 1) none 2 (xs.length : Int)).1 + (m : Int) * 2).toNat]? = (ods xs)[m]?
      have hm : m < (ods xs).length := hm
      rw [ods_len] at hm
      rw [ods_get]
      congr 1
      (unfold Builtin.Slice.sliceAdjust; simp; omega)
  | rv =>
    refine key _ _ _ _ ?_ fun m hm => ?_
    · show Builtin.Slice.slicePlaces (Builtin.Slice.sliceAdjust none none (-1) (xs.length : Int)).1 (Builtin.Slice.sliceAdjust none none (-1) (xs.length : Int)).2 (-1) = xs.reverse.length
      rw [List.length_reverse]
      unfold Builtin.Slice.sliceAdjust Builtin.Slice.slicePlaces
      simp
      split <;> omega
    · show xs[((Builtin.Slice.sliceAdjust none none (-1) (xs.length : Int)).1 + (m : Int) * (-1)).toNat]? = xs.reverse[m]?
      have hm : m < xs.reverse.length := hm
      rw [List.length_reverse] at hm
      rw [List.getElem?_reverse hm]
      congr 1
      (unfold Builtin.Slice.sliceAdjust; simp; omega)
theorem StK.map {α β : Type} {R : α → β → Prop} : ∀ (k : StK) {xs : List α} {ys : List β}, xs.length = ys.length → (∀ (i : Nat) (x : α), xs[i]? = some x → ∃ y, ys[i]? = some y ∧ R x y) → (k.ap xs).length = (k.ap ys).length ∧ ∀ (i : Nat) (x : α), (k.ap xs)[i]? = some x → ∃ y, (k.ap ys)[i]? = some y ∧ R x y := by
  intro k xs ys hl h
  cases k with
  | ev => exact ⟨by show (evs xs).length = (evs ys).length; rw [evs_len, evs_len, hl], fun i x (e : (evs xs)[i]? = _) => by
      rw [evs_get] at e; obtain ⟨y, h1, h2⟩ := h _ x e; exact ⟨y, by show (evs ys)[i]? = _; rw [evs_get]; exact h1, h2⟩⟩
  | od => exact ⟨by show (ods xs).length = (ods ys).length; rw [ods_len, ods_len, hl], fun i x (e : (ods xs)[i]? = _) => by
      rw [ods_get] at e; obtain ⟨y, h1, h2⟩ := h _ x e; exact ⟨y, by show (ods ys)[i]? = _; rw [ods_get]; exact h1, h2⟩⟩
  | rv => exact ⟨by show xs.reverse.length = ys.reverse.length; rw [List.length_reverse, List.length_reverse, hl], fun i x (e : xs.reverse[i]? = _) => by
      have l : i < xs.reverse.length := by
        rcases Nat.lt_or_ge i xs.reverse.length with q | q
        · exact q
        · rw [List.getElem?_eq_none q] at e; cases e
      rw [List.length_reverse] at l
      rw [List.getElem?_reverse l] at e
      obtain ⟨y, h1, h2⟩ := h _ x e
      refine ⟨y, ?_, h2⟩
      show ys.reverse[i]? = _
      rw [List.getElem?_reverse (by omega), ← hl]
      exact h1⟩
theorem vals_of : ∀ {xs : List V} {us : List Value}, xs.length = us.length → (∀ (i : Nat) (x : V), xs[i]? = some x → ∃ u, us[i]? = some u ∧ RelV x u) → Vals xs us
  | [], [], _, _ => .nil
  | x :: xs, u :: us, hl, h => by
    obtain ⟨u', h1, h2⟩ := h 0 x rfl
    cases h1
    exact .cons h2 (vals_of (by simpa using hl) fun i y e => h (i + 1) y e)
theorem StK.vals (k : StK) {xs : List V} {us : List Value} (r : Vals xs us) : Vals (k.ap xs) (k.ap us) := by
  obtain ⟨h1, h2⟩ := k.map (R := RelV) r.length fun i x e => r.get e
  exact vals_of h1 h2
variable {K : PySem.W.Frag} {ad : Cl → Addr} {ct : CT}
theorem rps_of {F : Hp} : ∀ {vs : List V} {ds : List D}, ds.length = vs.length → (∀ (i : Nat) (d : D), ds[i]? = some d → ∃ v, vs[i]? = some v ∧ Rp K ad F v d) → Rps K ad F vs ds
  | [], [], _, _ => .nil
  | v :: vs, d :: ds, hl, h => by
    obtain ⟨v', h1, h2⟩ := h 0 d rfl
    cases h1
    exact .cons h2 (rps_of (by simpa using hl) fun i y e => h (i + 1) y e)
theorem StK.rps (k : StK) {F : Hp} {vs : List V} {ds : List D} (r : Rps K ad F vs ds) : Rps K ad F (k.ap vs) (k.ap ds) := by
  obtain ⟨h1, h2⟩ := k.map (R := fun d v => Rp K ad F v d) r.len.symm fun i x e => r.get e
  exact rps_of h1 h2
section
variable {prog : Program} {w : World} {A : Around} {E : Value → Shared → Prop} {s : Shared}
/-- where such a slice begins, and how many places it has -/
def StK.at0 (k : StK) (n : Int) : Int := (Builtin.Slice.sliceAdjust k.lo none k.st n).1
def StK.many (k : StK) (n : Int) : Nat := Builtin.Slice.slicePlaces (k.at0 n) (Builtin.Slice.sliceAdjust k.lo none k.st n).2 k.st
theorem StK.st_ne (k : StK) : (k.st == 0) = false ∧ (k.st == 1) = false := by cases k <;> exact ⟨by decide, by decide⟩
theorem StK.pickA (k : StK) (its : Array Value) : (List.range (k.many its.size)).filterMap (fun (m : Nat) => its[(k.at0 its.size + (m : Int) * k.st).toNat]?) = k.ap its.toList := by
  have e : (fun (m : Nat) => its[(k.at0 its.size + (m : Int) * k.st).toNat]?) = fun (m : Nat) => its.toList[(k.at0 its.size + (m : Int) * k.st).toNat]? := funext fun m => (Array.getElem?_toList).symm
  rw [e]
  have q := k.pick its.toList
  rw [Array.length_toList] at q
  exact q
/-- the slice's three fields, read in their order -/
theorem applied_st {sl : Addr} {vl vs : Value} {k : StK} {n : Nat} {Q : Int × Int × Nat → Shared → Prop} (hs : s.heap.IsSliceOf sl vl .none vs) (pl : IsPart vl k.lo) (ps : IsPart vs (some k.st)) (h : Q (k.at0 n, k.st, k.many n) s) : wpAny (model prog w) A (Builtin.Slice.sliceApplied (.ref sl) (pure (n : Int))) Q E s := by
  obtain ⟨o, ho, _, hf⟩ := id hs
  have rd : ∀ {x : Value} {i : Nat} {R : Value → Shared → Prop}, #[vl, Value.none, vs][i]? = some x → R x s → wpAny (model prog w) A (field (.ref sl) i) R E s := fun e r => wpAny_field ho hf e r
  have fields : ∀ {R : Value × Value × Value → Shared → Prop}, R (vl, .none, vs) s → wpAny (model prog w) A (Builtin.Slice.sliceFields (.ref sl)) R E s := fun r => by
    unfold Builtin.Slice.sliceFields
    exact wpAny_bind (rd rfl (wpAny_bind (rd rfl (wpAny_bind (rd rfl (wpAny_pure r))))))
  unfold Builtin.Slice.sliceApplied
  refine wpAny_bind (fields (wpAny_bind (HT.slicePart_ ps ?_)))
  show (wpAny _ _ (if (k.st == 0) = true then _ else _) _ _ s)
  rw [k.st_ne.1, if_neg (fun q => nomatch q)]
  exact wpAny_bind (HT.slicePart_ pl (wpAny_bind (slicePart_none (wpAny_bind (wpAny_pure (wpAny_pure h))))))
/-- what tuple.__getitem__ gives for it -/
theorem entry_st {t sl : Addr} {its : Array Value} {vl vs : Value} {k : StK} {Q : Fin → Shared → Prop} (ht : IsTup s.heap t its) (hs : s.heap.IsSliceOf sl vl .none vs) (pl : IsPart vl k.lo) (ps : IsPart vs (some k.st)) (hz : its.size ≤ sizeLine)
    (h : Q (.done (.ret (.ref s.heap.objs.size))) { s with heap := s.heap.push { cls := .type "tuple", data := .seq (k.ap its.toList).toArray } }) : wpAny (model prog w) A (Builtin.«tuple.__getitem__» ⟨[.ref t, .ref sl], []⟩) Q E s := by
  obtain ⟨o, ho, hc, hf⟩ := id hs
  have fits : sizeOk (.seq (k.ap its.toList).toArray) := by
    have l := k.len its.toList
    rw [Array.length_toList] at l
    show (List.toArray _).size ≤ sizeLine
    rw [List.size_toArray]
    exact Nat.le_trans l hz
  show (wpAny _ _ (Builtin.Tuple.tupleItemsOf (.ref t) >>= _) _ _ s)
  refine (wpAny_bind (tupleItemsOf_ ht (wpAny_bind (wpAny_typeOf ⟨o, ho, hc⟩ ?_))))
  rw [if_pos (by decide)]
  refine (wpAny_bind (applied_st hs pl ps ?_))
  show (wpAny _ _ (if (k.at0 its.size == 0 && k.st == 1 && k.many its.size == its.size) = true then _ else _) _ _ s)
  rw [k.st_ne.2, Bool.and_false, Bool.false_and, if_neg (fun q => nomatch q), k.pickA its]
  first
    | exact (wpAny_bind (m := Builtin.Tuple.tupleExact _) (wpAny_newObj_type (wpAny_pure (wpAny_pure h)) fits))
    | exact (wpAny_bind (m := Builtin.Tuple.tupleExact _) (wpAny_newObj_type (wpAny_pure h) fits))
    | exact (wpAny_bind (m := Builtin.Tuple.tupleExact _) (wpAny_newObj_type (wpAny_bind (wpAny_pure (wpAny_pure h))) fits))
    | exact (wpAny_bind (wpAny_bind (m := Builtin.Tuple.tupleExact _) (wpAny_newObj_type (wpAny_pure (wpAny_pure h)) fits)))
theorem getItem_tuple_st {t sl : Addr} {items : Array Value} {vl vs : Value} {k : StK} {Q : Value → Shared → Prop} (ht : IsTup s.heap t items) (hs : s.heap.IsSliceOf sl vl .none vs) (pl : IsPart vl k.lo) (ps : IsPart vs (some k.st))
    (h : Q (.ref s.heap.objs.size) { s with heap := s.heap.push { cls := .type "tuple", data := .seq (k.ap items.toList).toArray } }) (hz : items.size ≤ sizeLine) : wpAny (model prog w) A (getItem (.ref t) (.ref sl)) Q E s := by
  exact wpAny_getItem_slot ht.typeIs (by decide) PyProof.Rows.slot_tuple_getitem (wpAny_call_entry PyProof.Rows.slot_tuple_getitem ht.typeIs PyProof.Rows.entry_tuple_getitem (entry_st ht hs pl ps hz ⟨_, rfl, h⟩) (PyProof.Rows.args_tuple_getitem _ _))
end
section
variable {fr : Fr} {F F' H H' : Hp} {σ : L2.St} {ρ : List Sl} {W : WX} {X : Cx}
def tStT (K : PySem.W.Frag) (k : StK) (te : TE) : TE := fun σ H Q => te σ H fun x H1 => ∃ a xs, x = .ref a ∧ SqT K H1 a xs ∧ ∀ p, H1 p = none → Q (.ref p) (upd H1 p (.tup (k.ap xs)))
/-- the written parts of such a slice -/
inductive StE : StK → Option Expr → Option Expr → Prop
  | ev (k : Nat) (p : Pos) : StE .ev none (some (.Constant (.int 2) k p))
  | od (k k' : Nat) (p p' : Pos) : StE .od (some (.Constant (.int 1) k' p')) (some (.Constant (.int 2) k p))
  | rv (k : Nat) (p p' : Pos) : StE .rv none (some (.UnaryOp .USub (.Constant (.int 1) k p) p'))
theorem PO.get {lo : Option Expr} {to : TO} (h : PO X lo to) {pins : List (Addr × Obj)} {s : Shared} {σ : L2.St} {H : Hp} {o : Option Int} (I : Inv X pins σ H s) (q : to σ H fun o' H' => o' = o ∧ H' = H) :
    wpAny (model X.prog X.w) X.A (evalPart lo X.env) (fun vl s1 => Inv X pins σ H s1 ∧ IsPart vl o) X.xe s :=
  thn (h.run pins s σ H _ I q) fun vl s1 ⟨l, H2, I2, pl, el, e2⟩ => by subst el e2; exact ⟨I2, pl⟩
theorem pe_st {k : StK} {e : Expr} {te : TE} {lo st : Option Expr} {p3 pos : Pos} (he : PE X e te) (hp : StE k lo st) : PE X (.Subscript e (.Slice lo none st p3) pos) (tStT X.K k te) := by
  (refine ⟨fun pins s σ H Q I h => ?_⟩)
  (refine Subscript_ (thn (he.run pins s σ H _ I h) fun v s1 ⟨x, H1, I1, r1, q1⟩ => ?_))
  (obtain ⟨a, xs, ex, hx, q⟩ := q1)
  subst ex
  cases r1
  have h1 : wpAny (model X.prog X.w) X.A (evalPart lo X.env) (fun vl s1 => Inv X pins σ H1 s1 ∧ IsPart vl k.lo) X.xe s1 := by
    cases hp with
    | ev k p => exact PO.get po_none I1 ⟨rfl, rfl⟩
    | od k k' p p' => exact PO.get (po_some pe_int) I1 ⟨1, rfl, rfl, rfl⟩
    | rv k p p' => exact PO.get po_none I1 ⟨rfl, rfl⟩
  refine wpAny_Slice (thn h1 fun vl s2 ⟨I2, pl⟩ => ?_)
  refine thn (PO.get po_none I2 (o := none) ⟨rfl, rfl⟩) fun vu s3 ⟨I3, pu⟩ => ?_
  have h2 : wpAny (model X.prog X.w) X.A (evalPart st X.env) (fun vl s1 => Inv X pins σ H1 s1 ∧ IsPart vl (some k.st)) X.xe s3 := by
    cases hp with
    | ev k p => exact PO.get (po_some pe_int) I3 ⟨2, rfl, rfl, rfl⟩
    | od k k' p p' => exact PO.get (po_some pe_int) I3 ⟨2, rfl, rfl, rfl⟩
    | rv k p p' => exact PO.get (po_some (pe_un un_neg pe_int)) I3 ⟨1, rfl, -1, rfl, rfl, rfl⟩
  refine thn h2 fun vs s4 ⟨I4, ps⟩ => ?_
  have eu : vu = .none := by cases pu; rfl
  subst eu
  have I5 : Inv X pins σ H1 { s4 with heap := s4.heap.push { cls := .type "slice", data := .fields #[vl, .none, vs] } } := I4.kept (t' := s4.toks) fun b ob q => Heap.get?_push_of_some _ q
  obtain ⟨its, r, ht, hz⟩ := I5.tuple hx
  have hlen := r.length
  show wpAny (model X.prog X.w) X.A (subscriptTail e (.Slice lo none st p3) (.ref a) (.ref s4.heap.objs.size)) (EP X pins σ Q) X.xe { s4 with heap := s4.heap.push { cls := .type "slice", data := .fields #[vl, .none, vs] } }
  refine tail_any (ops := [.ref a, .ref s4.heap.objs.size]) ht.typeIs (PyProof.Rows.slot_tuple_getitem.lookup) ?_ (by cases hp <;> with_unfolding_all rfl)
  refine getItem_tuple_st ht (Heap.IsSliceOf.new _ vl .none vs) pl ps ?_ (by rw [List.size_toArray]; omega)
  refine ⟨.ref _, _, I5.laid (t' := s4.toks) (o := .tup (k.ap xs)) (fun b ob q => Heap.get?_push_of_some _ q) (Nat.le_refl _) ?_, rfl, q _ (I5.hok.fresh (Nat.le_refl _))⟩
  have r2 := k.vals r
  have l2 := k.len xs
  exact ⟨by omega, _, r2, ⟨_, Heap.get?_push_size _ rfl, rfl, 0, rfl⟩⟩
def evSt (k : StK) (m : Ev) : Ev := bnd (dat m) fun d => match d with | .tup xs => vD (.tup (k.ap xs)) | _ => fai
theorem pp_st {k : StK} {e : Expr} {m : Ev} {lo st : Option Expr} {p3 pos : Pos} (eK : X.K = K) (he : PE X e (TP K ct W m)) (hp : StE k lo st) : PE X (.Subscript e (.Slice lo none st p3) pos) (TP K ct W (evSt k m)) := by
  subst eK
  refine (pe_st he hp).imp fun σ H Q ⟨fr, F, ρ, S, h⟩ => ?_
  refine Tat.dat h S fun F1 H1 ρ1 v d s1 S1 r1 h => ?_
  cases r1 with
  | tup h1 k1 =>
    exact ⟨_, _, rfl, sameT S1.fh h1, fun q hq => Tat.ok (a := Rv.d (.tup (k.ap _))) h _ (upd F1 q (.tup (k.ap _))) _ (same_up (S1.nn hq)) (S1.newD hq) (Rp.tup (SqT.of upd_same) ((k.rps k1).mono (same_up (S1.nn hq))))⟩
  | _ => obtain ⟨_, _, e, _⟩ := h; cases e
end
/-! ### x in o, x not in o, also as tests -/
end PL
namespace OW
open PySem PySem.Spec PyProof.Rows L2
section
variable {CX : CXT} {X : Cx} {C : Addr} {f : Addr} {fd : FuncData} {k : Nat} {ps : List Str} {sp : Sp} {E : XK}
theorem op_nin {m : Str} (hm : m = "__contains__") (M : Meth X.K C m f) (F : FnOk X.prog X.w X.K X.mg X.base CX k f fd ps sp) (hr : Room k X.A) (hb : Binds X.K fd ps []) (hx : Passes CX X E) : OpR X (compareOp .NotIn) (rInOwn C sp E true) := by
  intro pn s σ H y x v u Q I ry rx ⟨a, dx, fs, ex, ha, q⟩
  subst ex
  cases rx
  obtain ⟨ox, od, J⟩ := inst I ha
  obtain ⟨m', hF⟩ := I.fr
  subst hm
  refine PySem.W.notIn_K hF I.ok.mod.kin J M.at_ M.fn ?_
  refine wpAny_mono (run_fn (us := [.ref a, v]) (vs := [.ref a, y]) F hr hb .nil hx I (.cons rfl (.cons ry .nil)) q) (fun w s' z => ?_) fun _ _ x => x
  obtain ⟨z', H', I', rz, b, eb, qz⟩ := z
  subst eb
  cases (show w = Value.bool b from rz)
  exact wpAny_truthy_bool ⟨.bl (!b), H', I', rfl, qz⟩
end
end OW
namespace PL
open PySem PySem.Spec PyProof.Rows L2
section
variable {CX : CXT} {K : PySem.W.Frag} {ct : CT} {fr : Fr} {F F' H H' : Hp} {σ : L2.St} {ρ : List Sl} {W : WX} {X : Cx} {f : Addr} {fd : FuncData} {k : Nat} {ps : List Str} {n : Nat} {G : Fn} {pos : Pos}
/-- x not in o -/
def evOwnNin (n : Nat) (G : Fn) (c : Cl) (a b : Ev) : Ev := bnd (dat a) fun x => bnd (dat b) fun d => match d with
  | .obj c' xs => if c' = c then tst (noEr (callG n G [.d (.obj c xs), .d x])) |> fun t => bnd t fun b => vD (.bl (!b)) else fai
  | _ => fai
theorem w_ownin {c : Cl} {fa fb : Ev} {Q : VK} (h : TP K ct W (evOwnIn n G c fa fb) σ H Q) : tOp (OW.rInOwn (ct.ad c) (spP K ct.ad n G) E0 false) (TP K ct W fa) (TP K ct W fb) σ H Q := by
  obtain ⟨fr, F, ρ, S, h⟩ := h
  refine Tat.dat h S fun F0 H0 ρ0 x dx0 s0 S0 r0 h => ?_
  refine Tat.obj h S0 fun F1 H1 ρ1 a dx vs xs s1 S1 h1 l1 k1 h => ?_
  refine ⟨a, dx, _, rfl, S1.fh _ _ h1, ?_⟩
  have h2 : Tat K ct (RV K ct.ad) W fr F1 ρ1 (noEr (callG n G [.d (.obj c xs), .d dx0])) σ fun z H' => ∃ b, z = .bl b ∧ Q (.bl (if false then !b else b)) H' :=
    Tat.tstT (k := fun b => vD (.bl b)) h fun F2 H2 ρ2 b s2 S2 h => ⟨b, rfl, Tat.ok (a := Rv.d (.bl b)) h _ F2 H2 (Same.refl _) S2 (Rp.bl b)⟩
  exact Tat.call (W := fun _ _ _ _ => False) (Tat.noEr h2) S1 (RAs.cons (Rp.obj h1 l1 k1) (RAs.cons (r0.mono s1) RAs.nil)) fun _ _ _ z => z
theorem w_ownnin {c : Cl} {fa fb : Ev} {Q : VK} (h : TP K ct W (evOwnNin n G c fa fb) σ H Q) : tOp (OW.rInOwn (ct.ad c) (spP K ct.ad n G) E0 true) (TP K ct W fa) (TP K ct W fb) σ H Q := by
  obtain ⟨fr, F, ρ, S, h⟩ := h
  refine Tat.dat h S fun F0 H0 ρ0 x dx0 s0 S0 r0 h => ?_
  refine Tat.obj h S0 fun F1 H1 ρ1 a dx vs xs s1 S1 h1 l1 k1 h => ?_
  refine ⟨a, dx, _, rfl, S1.fh _ _ h1, ?_⟩
  have h2 : Tat K ct (RV K ct.ad) W fr F1 ρ1 (noEr (callG n G [.d (.obj c xs), .d dx0])) σ fun z H' => ∃ b, z = .bl b ∧ Q (.bl (if true then !b else b)) H' :=
    Tat.tstT (k := fun b => vD (.bl (!b))) h fun F2 H2 ρ2 b s2 S2 h => ⟨b, rfl, Tat.ok (a := Rv.d (.bl (!b))) h _ F2 H2 (Same.refl _) S2 (Rp.bl (!b))⟩
  exact Tat.call (W := fun _ _ _ _ => False) (Tat.noEr h2) S1 (RAs.cons (Rp.obj h1 l1 k1) (RAs.cons (r0.mono s1) RAs.nil)) fun _ _ _ z => z
variable {m : Str} {a b : Expr} {fa fb : Ev}
theorem pp_ownnin (c : Cl) (hm : m = "__contains__") (M : Meth X.K (ct.ad c) m f) (Fn : FnOk X.prog X.w X.K X.mg X.base CX k f fd ps (spP K ct.ad n G)) (hr : Room k X.A) (hb : Binds X.K fd ps []) (hx : Passes CX X E0)
    (ha : PE X a (TP K ct W fa)) (hbb : PE X b (TP K ct W fb)) (hmk : behindInMarks .NotIn b = false) : PE X (.Compare a [.NotIn] [b] pos) (TP K ct W (evOwnNin n G c fa fb)) := (pe_cmpR (OW.op_nin hm M Fn hr hb hx) ha hbb hmk).imp fun _ _ _ => w_ownnin
theorem pp_tnin (c : Cl) (hm : m = "__contains__") (M : Meth X.K (ct.ad c) m f) (Fn : FnOk X.prog X.w X.K X.mg X.base CX k f fd ps (spP K ct.ad n G)) (hr : Room k X.A) (hb : Binds X.K fd ps []) (hx : Passes CX X E0)
    (ha : PE X a (TP K ct W fa)) (hbb : PE X b (TP K ct W fb)) (hmk : behindInMarks .NotIn b = false) : PT X (.Compare a [.NotIn] [b] pos) (TB K ct W (tst (evOwnNin n G c fa fb))) := (pt_cmpR (OW.op_nin hm M Fn hr hb hx) ha hbb hmk).imp fun _ _ _ h => w_ownnin (w_t h)
theorem pp_tin (c : Cl) (hm : m = "__contains__") (M : Meth X.K (ct.ad c) m f) (Fn : FnOk X.prog X.w X.K X.mg X.base CX k f fd ps (spP K ct.ad n G)) (hr : Room k X.A) (hb : Binds X.K fd ps []) (hx : Passes CX X E0)
    (ha : PE X a (TP K ct W fa)) (hbb : PE X b (TP K ct W fb)) (hmk : behindInMarks .In b = false) : PT X (.Compare a [.In] [b] pos) (TB K ct W (tst (evOwnIn n G c fa fb))) := (pt_cmpR (OW.op_in hm M Fn hr hb hx) ha hbb hmk).imp fun _ _ _ h => w_ownin (w_t h)
end
end PL
/-! ### min, max, sum over a list or a tuple -/
namespace OW
open PySem PySem.Spec PyProof.Rows L2
def rMinT (K : PySem.W.Frag) : List V → Hp → VK → Prop := fun vs H Q => ∃ (a : Addr) (ns : List Int), vs = [V.ref a] ∧ SqT K H a (ns.map V.int) ∧ ns ≠ [] ∧ Q (.int (PL.minI ns)) H
def rMaxT (K : PySem.W.Frag) : List V → Hp → VK → Prop := fun vs H Q => ∃ (a : Addr) (ns : List Int), vs = [V.ref a] ∧ SqT K H a (ns.map V.int) ∧ ns ≠ [] ∧ Q (.int (PL.maxI ns)) H
theorem cr_minT {X : Cx} (hc : X.calm = true) (hu : X.A.units + 64 < cLine) : CallR X (.builtin "min") (rMinT X.K) := by
  intro pn s σ H vs us Q I r ⟨a, ns, e, hs, hne, q⟩
  subst e
  obtain ⟨its, rv, p, _⟩ := I.tuple hs
  have p : s.heap.IsTuple a its.toArray := p
  have hi := rv.ints
  have hd := depth_ints ns
  rw [Vals.ref1 r]
  cases ns with
  | nil => exact absurd rfl hne
  | cons n ns =>
    refine PySem.W.min_tuple_data (I.ok.hd hc) p (x := .int n) (xs := ns.map PyData.int) (as := []) (by simpa using hi.reads s.heap) (alike_ints (n :: ns)) (by rw [List.map_cons] at hd; omega) (fun i v h' tk bs _ rd kp => ?_)
    rw [PySem.W.minD_ints] at rd
    cases rd
    exact ⟨.int _, H, I.kept kp, ⟨_, rfl⟩, q⟩
theorem cr_maxT {X : Cx} (hc : X.calm = true) (hu : X.A.units + 64 < cLine) : CallR X (.builtin "max") (rMaxT X.K) := by
  intro pn s σ H vs us Q I r ⟨a, ns, e, hs, hne, q⟩
  subst e
  obtain ⟨its, rv, p, _⟩ := I.tuple hs
  have p : s.heap.IsTuple a its.toArray := p
  have hi := rv.ints
  have hd := depth_ints ns
  rw [Vals.ref1 r]
  cases ns with
  | nil => exact absurd rfl hne
  | cons n ns =>
    refine PySem.W.max_tuple_data (I.ok.hd hc) p (x := .int n) (xs := ns.map PyData.int) (as := []) (by simpa using hi.reads s.heap) (alike_ints (n :: ns)) (by rw [List.map_cons] at hd; omega) (fun i v h' tk bs _ rd kp => ?_)
    rw [PySem.W.maxD_ints] at rd
    cases rd
    exact ⟨.int _, H, I.kept kp, ⟨_, rfl⟩, q⟩
/-- either of two readings of a call -/
def rOr (r1 r2 : List V → Hp → VK → Prop) : List V → Hp → VK → Prop := fun vs H Q => r1 vs H Q ∨ r2 vs H Q
theorem cr_or {X : Cx} {f : Value} {r1 r2 : List V → Hp → VK → Prop} (h1 : CallR X f r1) (h2 : CallR X f r2) : CallR X f (rOr r1 r2) := by
  intro pn s σ H vs us Q I r h
  rcases h with h | h
  · exact h1 pn s σ H vs us Q I r h
  · exact h2 pn s σ H vs us Q I r h
end OW
namespace PL
open PySem PySem.Spec PyProof.Rows L2
section
variable {K : PySem.W.Frag} {ad : Cl → Addr} {X : Cx}
def aints (d : D) : Option (List Int) := d.items.bind D.ints
def gMinA : List D → Option D | [d] => (aints d).bind fun ns => if ns ≠ [] then some (.int (minI ns)) else none | _ => none
def gMaxA : List D → Option D | [d] => (aints d).bind fun ns => if ns ≠ [] then some (.int (maxI ns)) else none | _ => none
def gSumA : List D → Option D | [d] => (aints d).map fun ns => .int ns.sum | _ => none
theorem aints_i {F H : Hp} {v : V} {d : D} {ns : List Int} (s : Same F H) (r : Rp K ad F v d) (h : aints d = some ns) : ∃ p, v = .ref p ∧ (SqL K H p (ns.map V.int) ∨ SqT K H p (ns.map V.int)) := by
  unfold aints at h
  cases e : d.items with
  | none => rw [e] at h; exact nomatch h
  | some xs =>
    rw [e] at h
    have h : D.ints xs = some ns := h
    cases d <;> cases e
    · cases r with | tup h1 k => rw [D.ints_eq h] at k; rw [k.ints] at h1; exact ⟨_, rfl, .inr (sameT s h1)⟩
    · cases r with | lst h1 k => rw [D.ints_eq h] at k; rw [k.ints] at h1; exact ⟨_, rfl, .inl (SqL.of (s _ _ h1))⟩
    · cases r with | sq h1 k => rw [D.ints_eq h] at k; rw [k.ints] at h1; exact ⟨_, rfl, .inl (s.seq h1)⟩
theorem ob_minA : OB K ad (OW.rOr (rMin K) (OW.rMinT K)) gMinA := by
  intro F H vs ds z Q s r e q _
  unfold gMinA at e
  split at e
  · rename_i d
    cases e1 : aints d with
    | none => rw [e1] at e; cases e
    | some ns =>
      rw [e1] at e
      have e : (if ns ≠ [] then some (D.int (minI ns)) else none) = some z := e
      split at e
      · rename_i h
        cases e
        obtain ⟨v, rfl, rv⟩ := one_i r
        obtain ⟨p, rfl, hp | hp⟩ := aints_i s rv e1
        · refine .inl ⟨p, ns, rfl, hp, List.length_pos_iff.mpr h, fun m m1 m2 => ?_⟩
          obtain ⟨a1, a2⟩ := minI_spec h
          rw [show m = minI ns by have := a2 m m1; have := m2 _ a1; omega]
          exact q _ (.int _)
        · exact .inr ⟨p, ns, rfl, hp, h, q _ (.int _)⟩
      · cases e
  · cases e
theorem ob_maxA : OB K ad (OW.rOr (rMax K) (OW.rMaxT K)) gMaxA := by
  intro F H vs ds z Q s r e q _
  unfold gMaxA at e
  split at e
  · rename_i d
    cases e1 : aints d with
    | none => rw [e1] at e; cases e
    | some ns =>
      rw [e1] at e
      have e : (if ns ≠ [] then some (D.int (maxI ns)) else none) = some z := e
      split at e
      · rename_i h
        cases e
        obtain ⟨v, rfl, rv⟩ := one_i r
        obtain ⟨p, rfl, hp | hp⟩ := aints_i s rv e1
        · refine .inl ⟨p, ns, rfl, hp, List.length_pos_iff.mpr h, fun m m1 m2 => ?_⟩
          obtain ⟨a1, a2⟩ := maxI_spec h
          rw [show m = maxI ns by have := a2 m m1; have := m2 _ a1; omega]
          exact q _ (.int _)
        · exact .inr ⟨p, ns, rfl, hp, h, q _ (.int _)⟩
      · cases e
  · cases e
theorem ob_sumA : OB K ad (OW.rOr (rSum K) (OW.rSumT K)) gSumA := by
  intro F H vs ds z Q s r e q _
  unfold gSumA at e
  split at e
  · rename_i d
    obtain ⟨ns, e1, rfl⟩ := map_some e
    obtain ⟨v, rfl, rv⟩ := one_i r
    obtain ⟨p, rfl, hp | hp⟩ := aints_i s rv e1
    · exact .inl ⟨p, ns, rfl, hp, q _ (.int _)⟩
    · exact .inr ⟨p, ns, rfl, hp, q _ (.int _)⟩
  · cases e
theorem c_minA (hc : X.calm = true) (hu : X.A.units + 64 < cLine) (eK : X.K = K) : CallR X (.builtin "min") (OW.rOr (rMin K) (OW.rMinT K)) := by subst eK; exact OW.cr_or (cr_min hc) (OW.cr_minT hc hu)
theorem c_maxA (hc : X.calm = true) (hu : X.A.units + 64 < cLine) (eK : X.K = K) : CallR X (.builtin "max") (OW.rOr (rMax K) (OW.rMaxT K)) := by subst eK; exact OW.cr_or (cr_max hc) (OW.cr_maxT hc hu)
theorem c_sumA (hc : X.calm = true) (eK : X.K = K) : CallR X (.builtin "sum") (OW.rOr (rSum K) (OW.rSumT K)) := by subst eK; exact OW.cr_or (cr_sum hc) (OW.cr_sumT hc)
end
end PL
end
section
/-! an exception class over a class over ValueError, whose __init__ says super().__init__(text) and then stores its one value -/
namespace EX
abbrev bmVE : List PySem.Value := [.type "ValueError", .type "Exception", .type "BaseException", .type "object"]
open PySem PySem.Spec PyProof.Rows L2
/-! ### a value told in a text -/
def FmtOk (K : PySem.W.Frag) (v : V) (H : Hp) : Prop := (∃ y : Str, v = .str y ∧ y.length ≤ 3000) ∨ (∃ i : Int, v = .int i ∧ i.natAbs.log2 < 1920) ∨ ∃ (t : Addr) (l : List Int), v = .ref t ∧ SqT K H t (l.map V.int) ∧ l.length ≤ 4 ∧ ∀ i ∈ l, i.natAbs.log2 < 1920
theorem reprs_ints {prog : Program} {w : World} : ∀ {l : List Int} {its : List Value}, Vals (l.map V.int) its → (∀ i ∈ l, i.natAbs.log2 < 1920) → ReprAll prog w its (l.map fun i => ((toString i : String) : Str))
  | [], _, r, _ => by
    cases r
    exact .nil
  | i :: l, _, r, h => by
    cases r with
    | cons r1 r2 =>
      obtain ⟨t, rfl⟩ := r1
      exact .cons (ReprIs.int t (h i List.mem_cons_self)) (reprs_ints r2 fun z hz => h z (List.mem_cons_of_mem _ hz))
theorem piled_ints : ∀ l : List Int, (∀ i ∈ l, i.natAbs.log2 < 1920) → piled (l.map fun i => ((toString i : String) : Str)) ≤ 1930 * l.length
  | [], _ => Nat.zero_le _
  | i :: l, h => by
    have h1 := PyProof.Rows.int_text_len_1921 (h i List.mem_cons_self)
    have h2 := piled_ints l fun z hz => h z (List.mem_cons_of_mem _ hz)
    have e : ((toString i : String) : Str) = PySem.Str.ofString (toString i) := rfl
    rw [List.map_cons, piled_cons, List.length_cons, e]
    omega
/-- {x}: some text -/
def tFmtA (K : PySem.W.Frag) (te : TE) : TE := fun σ H Q => te σ H fun x H1 => FmtOk K x H1 ∧ ∀ m : Str, m.length ≤ 10000 → Q (.str m) H1
theorem pe_fmtA {X : Cx} {e : Expr} {te : TE} {pos : Pos} {k : Nat} (hr : Room k X.A) (he : PE X e te) : PE X (.FormattedValue e (-1) none pos) (tFmtA X.K te) := by
  (refine ⟨fun pins s σ H Q I h => ?_⟩)
  (refine wpAny_FormattedValue_plain (thn (he.run pins s σ H _ I h) fun v s1 hv => ?_))
  obtain ⟨x, H1, I1, r1, ⟨y, rfl, hy⟩ | ⟨i, rfl, hi⟩ | ⟨a, l, rfl, ht, hl, hi⟩, q⟩ := hv
  · obtain ⟨t, rfl⟩ := r1
    exact wpAny_formatField_str ⟨.str y, H1, I1, ⟨t, rfl⟩, q _ (by omega)⟩ ⟨.str y, H1, I1.tok _, ⟨_, rfl⟩, q _ (by omega)⟩ (by rw [sizeLine_eq]; omega)
  · obtain ⟨t, rfl⟩ := r1
    have := PyProof.Rows.int_text_len_1921 hi
    exact wpAny_formatField_int hi ⟨.str (toString i), H1, I1.tok _, ⟨_, rfl⟩, q _ (by have e : ((toString i : String) : Str) = PySem.Str.ofString (toString i) := rfl; rw [e]; omega)⟩
  · cases r1
    (obtain ⟨its, rv, ⟨o, ho, hcl, n, hd⟩, _⟩ := I1.tuple ht)
    have hp := piled_ints l hi
    have htx := fmt_text (l.map fun i => ((toString i : String) : Str))
    have hu := hr.units
    exact fmt_tuple (ts := l.map fun i => ((toString i : String) : Str)) (by omega) ho hcl hd (reprs_ints rv hi) (by rw [sizeLine_eq]; omega) fun m u tk hm => ⟨.str m, H1, I1.tok _, ⟨u, rfl⟩, q m (by omega)⟩
/-! ### the def -/
/-- what is known at the start of the body: its frame, the cell of __class__ -/
def cxX (P : Program) (w : World) (K : PySem.W.Frag) (mg : Str → Option Value) (base : Heap) (N : List Str) (qual : Str) (scope : Scope) (f : Addr) (cd : Value) (cc : Addr) (A : Around) (outer : List Env) (s : Shared) (H : Hp) : Cx where
  prog := P
  w := w
  K := K
  mg := mg
  base := base
  A := A.deeper (PySem.W.ksEnv qual scope s.heap.objs.size f cd cc)
  N := N
  s_0 := s
  H_0 := H
  env := PySem.W.ksEnv qual scope s.heap.objs.size f cd cc
  outer := outer
  stack := PySem.W.ksEnv qual scope s.heap.objs.size f cd cc :: outer
  ex := []
  calm := true
  fn := fun _ => false
  pn := []
  xe := fun _ _ => False
section
variable {P : Program} {w : World} {K : PySem.W.Frag} {mg : Str → Option Value} {base : Heap} {A : Around} {outer : List Env} {s : Shared} {H : Hp} {h₀ : Heap} {N : List Str} {qual : Str} {scope : Scope} {f cc D : Addr} {cd : Value} {σ : L2.St} {t' : Nat} {m : Str → Option Value}
  {cl : Value} {cld : Option Addr} {csl : Array (Option Value)}
theorem look1 {x : Str} {c : Addr} (h : ([("__class__", cc)] : List (Str × Addr)).lookup x = some c) : x = "__class__" ∧ c = cc := by
  by_cases e : x = "__class__"
  · subst e
    simp at h
    exact ⟨rfl, h.symm⟩
  · have : (x == ("__class__" : Str)) = false := by simpa using e
    rw [List.lookup_cons, this] at h
    simp at h
theorem inv_startX (hk : scope.kind = .function) (e0 : Env0 P w K mg base A outer s H) (hd : A.handled = none) (hcell : K.lookup cc = some ⟨cl, cld, .cell (some (.ref D)), csl⟩) (hfr : ∀ x, scope.names.lookup x = some .free → x = "__class__") (hnc : ∀ y ∈ scope.names, y.2 ≠ .cell)
    (hn : h₀.Ns s.heap.objs.size m) (k : ∀ b o, s.heap.get? b = some o → h₀.get? b = some o) (hm : ∀ (i : Nat) (x : Str) (v : V), N[i]? = some x → σ[i]? = some (some v) → ∃ u, RelV v u ∧ m x = some u ∧ scope.names.lookup x = some .local) (len : σ.length = N.length) :
    Inv (cxX P w K mg base N qual scope f cd cc A outer s H) [] σ H { s with heap := h₀, toks := t' } := by
  have noA : ∀ b : Addr, b ∉ (cxX P w K mg base N qual scope f cd cc A outer s H).ex := fun b z => absurd (show b ∈ ([] : List Addr) from z) (by simp)
  have cb := e0.mod.kin _ _ hcell
  have cs := e0.bs _ _ cb
  refine ⟨⟨e0.mod, hk, rfl, rfl, Nat.le_refl _, fun y z c h1 h2 => ?_, fun y hy => ?_, fun y c h _ => (by cases h), fun _ => hd, Around.frames_deeper e0.frames, .inr ⟨rfl, rfl⟩, fun b z => absurd z (noA b), e0.bs, e0.bsz, fun b _ _ => noA b, fun b z => absurd z (noA b), e0.funs, e0.frf⟩,
    rfl, e0.bare, Un.kept k, ⟨_, hn, fun i y v h1 h2 h3 => ?_⟩, fun y c h => ?_, e0.hok.fresh (Nat.le_refl _), fun y c h => ?_, fun p hp => absurd (show p ∈ ([] : List (Addr × Obj)) from hp) (by simp), e0.hok.kept k, len⟩
  · rw [(look1 h1).1, (look1 h2).1]
  · (have hy : scope.names.lookup y = some .cell ∨ scope.names.lookup y = some .free := hy)
    rcases hy with hy | hy
    · exact absurd rfl (hnc _ (PySem.mem_of_lookup hy))
    · rw [hfr y hy]
      exact ⟨cc, rfl⟩
  · obtain ⟨u, r, h4, h5⟩ := hm i y v h1 h2
    exact ⟨u, r, .inl ⟨h5, h4⟩⟩
  · rw [(look1 h).2]
    exact ⟨_, _, k _ _ cs.1, rfl⟩
  · rw [(look1 h).2]
    exact cs.2
end
section
open PySem.W PySem.Calls
variable {A : Around} {prog : Program} {E : Value → Shared → Prop} {w : World}
variable {h : Heap} {g : Array GenState} {d : Drawn} {t : Nat} {os : OsState}
/-- super().__init__(text) is called: the object's args are laid anew -/
theorem mw_call {K : Frag} {u x C t0 : Addr} {rest : List Value} {Q : Value → Shared → Prop} (X : K.In h) (q : excInitIn K C bmVE "ValueError.__new__" = true) (hu : h.get? u = some (kxs_mw "ValueError.__init__" x)) (he : h.get? x = some (PySem.HandSPX.excO C t0)) (hz : rest.length ≤ sizeLine)
    (hq : ∀ h' t1, (∀ b o, b ≠ x → h.get? b = some o → h'.get? b = some o) → h'.get? x = some (PySem.HandSPX.excO C t1) → Q .none ⟨h', g, d, t, os⟩) :
    wpAny (model prog w) A
      (call (.ref u) rest) Q E ⟨h, g, d, t, os⟩ := by
  have FB := PySem.F.excBase_ValueError
  (obtain ⟨nm, N', qn, bs, bm, hdct, sn, sub, ab, col, dd, k0, k1, k2, k3, k5, hC, hT⟩ := excInit_of X q)
  (refine wpAny_call (codeAny_of_tree ?_))
  (show wpAny _ A.in1 (callAny (.ref u) ⟨rest, []⟩) _ _ _)
  simp only [callAny]
  (refine wpAny_bind (wpAny_load hu ?_))
  (simp only [kxs_mw, show (Value.type "method-wrapper" == Value.type "method" || Value.type "method-wrapper" == Value.type "builtin_function_or_method" || Value.type "method-wrapper" == Value.type "method-wrapper") = true by decide, if_true])
  (refine KFB.if_so (by decide) ?_)
  (refine wpAny_bind (check_bound_init FB.toExcCallFacts hC he rfl ?_))
  (refine wpAny_bind (wpAny_pure (wpAny_pure ?_)))
  (refine ⟨plainId_quiet FB.init.plain _, codeAny_builtin FB.initEntry ?_⟩)
  exact exc_init_tree (cls := .ref C) (t0 := t0) (dv := none) (c2 := .none) (c3 := .none) (b4 := .bool false) he hz fun h' k e' _ => hq h' _ k e'
end
abbrev sfS : Str := "self"
/-- the argument's text -/
def tA (K : PySem.W.Frag) : TE := fun σ H Q => ∃ v, σ[1]? = some (some v) ∧ FmtOk K v H ∧ ∀ m : Str, m.length ≤ 11000 → Q (.str m) H
/-- the promise: at a stands a new exception of the class; its field gets the value -/
def spE (K : PySem.W.Frag) (C : Addr) (fld : Str) : Sp := fun vs H Q _ => ∃ (a : Addr) (v : V), vs = [.ref a, v] ∧ H a = some (exo a C none) ∧ FmtOk K v H ∧ ∀ dx, H dx = none → dx ≠ a → Q .non (upd (upd H dx (exd dx [(fld, v)])) a (exo a C (some dx)))
section
open PySem.W PySem.Calls
variable {P : Program} {w : World} {K : PySem.W.Frag} {mg : Str → Option Value} {base : Heap} {k : Nat} {f C cc cda : Addr} {fld x name qual : Str} {params : Arguments} {body : List Stmt} {scope : Scope} {dV kV doc pm ct oc ccl cl : Value} {an od cdd cld : Option Addr} {osl ccs csl : Array (Option Value)}
  {vs : Array Value} {file : Str} {tf : Tok} {cdD : ClassData} {ar : Arg} {p0 p1 p2 p3 p4 q1 q2 q3 q4 : Pos} {e : Expr}
theorem ok_exI (look : K.lookup f = some ⟨oc, od, .func (ksFn name qual params body scope dV kV doc pm an (.ref cda) ct cc), osl⟩) (code : codeIn K (.ref cda) qual = true)
    (hp : (params.posonlyargs ++ params.args).head? = some ar) (har : ar.arg = "self") (hcode : K.lookup cda = some ⟨ccl, cdd, .fields vs, ccs⟩) (hvs : vs[2]? = some (.str file tf)) (hfile : ((P.main.file : Str) == file) = true)
    (hcell : K.lookup cc = some ⟨cl, cld, .cell (some (.ref C)), csl⟩) (hD : clsIn K C = some cdD) (hsub : mroIn K C (.ref C) = some true) (hsuper : mg "super" = none)
    (hks : scope.names.lookup ("super" : Str) = some .globalImplicit) (hkc : scope.names.lookup ("__class__" : Str) = some .free) (hself : scope.names.lookup ("self" : Str) = some .local) (hx : scope.names.lookup x = some .local) (hxs : x ≠ "self")
    (hnc : ∀ y ∈ scope.names, y.2 ≠ .cell) (hfr : ∀ y, scope.names.lookup y = some .free → y = "__class__") (hk : scope.kind = .function) (hco : scope.isCoroutine = false) (hgen : scope.isGenerator = false)
    (htop : (P.main.scope.names.lookup ("super" : Str)).isSome = false) (hop : nsIn K cStatics "thirdparty.any" = some none) (hsup : ks_superIn K C C "__init__" = some (some (.builtin "ValueError.__init__")))
    (hVE : subIn K (.ref C) (.type "ValueError") = some true) (hin : excInitIn K C bmVE "ValueError.__new__" = true) (T : OexC K C) (hno : findIn K (.ref C) fld = some none)
    (hbody : body = [.Expr (.Call (.Attribute (.Call (.Name "super" p0) [] [] p1) "__init__" p2) [e] [] p3) p4, .Assign [.Attribute (.Name "self" q1) fld q2] (.Name x q3) q4])
    (hst : ∀ env, starEach [e] env = (false, eval e env) :: starEach [] env) (hsw : ∀ (env : Env), swapsWith (.Name x q3) (some (.Attribute (.Name "self" q1) fld q2)) q4.line env = pure false)
    (hsw2 : ∀ (env : Env), swapsWith (.Call (.Attribute (.Call (.Name "super" p0) [] [] p1) "__init__" p2) [e] [] p3) none p4.line env = pure false)
    (hev : ∀ env : Env, ∃ pl : Sem Bool, eval (.Call (.Attribute (.Call (.Name "super" p0) [] [] p1) "__init__" p2) [e] [] p3) env = (do
      let ov ← attributeBase (.Call (.Name "super" p0) [] [] p1) "__init__" env (eval (.Call (.Name "super" p0) [] [] p1) env)
      standAt p2.atName
      let (f, first) ← (holding [ov] (getMethod ov "__init__" pl))
      callWith p3 f first (backTo p3 (starEach [e] env)) []))
    (hd1 : (x == ("__debug__" : Str)) = false) (hd2 : (x == ("__classdict__" : Str)) = false)
    (he : ∀ (X : Cx), X.N = [sfS, x] → X.env.scope = scope → X.K = K → Room k X.A → PE X e (tA K)) :
    FnOk P w K mg base CX0 (k + 1) f (ksFn name qual params body scope dV kV doc pm an (.ref cda) ct cc) [sfS, x] (spE K C fld) := by
  refine ⟨fun vs H Q E ⟨a, v, e, _⟩ => by rw [e]; rfl, fun A outer s H args us vs' Q E room e0 bnd rv want => ?_⟩
  obtain ⟨a, v, rfl, ha, hv, q⟩ := want
  obtain ⟨u0, u, rfl, r0, ru⟩ := vals2 rv
  obtain rfl : u0 = Value.ref a := r0
  have KX : K.In s.heap := e0.mod.kin.keeps fun b o q => (e0.bs b o q).1
  have lim : s.heap.NoLimit := e0.mod.nolimit.keeps fun b o q => (e0.bs b o q).1
  have nx : (x == ("self" : Str)) = false := by simpa using hxs
  have ns : (("self" : Str) == x) = false := by simpa using fun z => hxs z.symm
  refine ks_codeAny_call_defAt (fd := ksFn name qual params body scope dV kV doc pm an (.ref cda) ct cc) (body := body) (binds := [sfS, x].zip [.ref a, u]) room.depth (KX _ _ look) rfl lim (codeRec_of KX code) rfl bnd hnc (fun y hy => ?_) (fun h₀ hns kp => ?_) hco hgen hk
  · have hy : y ∈ [(("self" : Str), Value.ref a), (x, u)] := hy
    simp at hy
    rcases hy with z | z <;> subst z
    · exact hself
    · exact hx
  have bx : ([sfS, x].zip [Value.ref a, u]).reverse = [(x, u), (sfS, .ref a)] := rfl
  have mself : (([sfS, x].zip [Value.ref a, u]).reverse).lookup ("self" : Str) = some (.ref a) := by rw [bx, List.lookup_cons, ns]; rfl
  have mx : (([sfS, x].zip [Value.ref a, u]).reverse).lookup x = some u := by rw [bx, List.lookup_cons_self]
  have J := inv_startX (N := [sfS, x]) (qual := qual) (f := f) (cd := .ref cda) (σ := [some (.ref a), some v]) (t' := s.toks + ([sfS, x].zip [Value.ref a, u]).length) hk e0 room.hd hcell hfr hnc hns kp (fun i y z h1 h2 => ?_) rfl
  · have envE : callEnv (ksFn name qual params body scope dV kV doc pm an (.ref cda) ct cc) s.heap.objs.size f = ksEnv qual scope s.heap.objs.size f (.ref cda) cc := rfl
    rw [envE]
    refine ks_wpAt_mono (Q := fun fl s' => ∃ G, Inv (cxX P w K mg base [sfS, x] qual scope f (.ref cda) cc A outer s H) [] [some (.ref a), some v] G s' ∧ fl = .next ∧ Q .non G) (E := fun _ _ => False) ?_ (fun fl s' hz => ?_) (fun _ _ z => z.elim)
    · subst hbody
      have KX0 : K.In h₀ := KX.keeps kp
      have hk' : (ksEnv qual scope s.heap.objs.size f (.ref cda) cc).scope.kind = .function := hk
      obtain ⟨mb, hb1, hb2⟩ := J.mod.blt
      obtain ⟨oD, hD1, hD2⟩ : ∃ oD, h₀.get? C = some oD ∧ oD.data = .cls cdD := by
        have hD := hD
        unfold clsIn at hD
        split at hD
        · rename_i c d cd' sl ho
          cases hD
          exact ⟨_, KX0 _ _ ho, rfl⟩
        · cases hD
      obtain ⟨t1, hoe⟩ := exo_at J.hok ha
      refine ks_wpAt_execs_cons (ks_wpAt_Expr_any ?_ J.quiet (hsw2 _))
      obtain ⟨pl, epl⟩ := hev (ksEnv qual scope s.heap.objs.size f (.ref cda) cc)
      refine ks_wpAt_MethodCall (pl := pl) ?_ epl
      refine ks_wpAt_super_base (env := ksEnv qual scope s.heap.objs.size f (.ref cda) cc) hks hkc (by decide) rfl (KX0 _ _ look) rfl hp rfl (KX0 _ _ hcode) rfl hvs hfile htop ?_
      refine ks_loadName_global hk' hks (loadGlobal_builtin (env := ksEnv qual scope s.heap.objs.size f (.ref cda) cc) (J.mod.glob.keeps J.bk) hsuper (hb1.keeps J.bk) ((hb2 _ (by decide)).trans PyProof.Rows.Boot.super) ⟨rfl, ?_⟩)
      refine wpAny_loadName_free hk' hkc rfl ⟨_, KX0 _ _ hcell, rfl⟩ ?_
      refine wpAny_loadName_local hk' (by rw [har]; exact hself) hns (by rw [har]; exact mself) ?_
      (refine ks_wpAny_isType_cls hD1 hD2 ⟨rfl, ?_⟩)
      refine ks_wpAny_call_super hD1 hD2 hoe rfl (fun c z => by cases z) (looks_mroIn KX0 hsub) fun h1 e1 k1 => ?_
      have KX1 : K.In h1 := KX0.keeps k1
      have I1 : InstAt h1 a _ C none := ⟨k1 _ _ hoe, rfl, rfl, trivial⟩
      have hf : alongIn K "__init__" ((cdD.mro.dropWhile (· != .ref C)).drop 1) = some (some (.builtin "ValueError.__init__")) := by
        unfold ks_superIn at hsup
        rw [hD] at hsup
        exact hsup
      refine kxs_getMethod kxs_ValueError (so := h₀.objs.size) (D := C) (x := a) (C := C) e1 (looks_opaque KX1 hop) (l₀ := cdD.mro) (fun A Q E s k q => wpAny_bind ((looks_clsIn KX1 hD) A _ E s k (wpAny_pure q))) rfl KX1 hf (I1.type.andThen (looks_subIn KX1 hVE)) (ks_ne KX1 I1 hD) (by decide) ?_
      have up2 : ∀ b o, h1.get? b = some o → (h1.push (kxs_mw "ValueError.__init__" a)).get? b = some o := fun b o z => Heap.get?_push_of_some _ z
      have hm : (h1.push (kxs_mw "ValueError.__init__" a)).get? h1.objs.size = some (kxs_mw "ValueError.__init__" a) := Heap.get?_push_at rfl rfl
      have J1 := J.kept (h' := h1) (t' := s.toks + (([sfS, x].zip [Value.ref a, u]).length)) k1
      have J2 := J1.kept (h' := h1.push (kxs_mw "ValueError.__init__" a)) (t' := s.toks + (([sfS, x].zip [Value.ref a, u]).length) + 1) up2
      have J3 : Inv (cxX P w K mg base [sfS, x] qual scope f (.ref cda) cc A outer s H) [(h1.objs.size, kxs_mw "ValueError.__init__" a)] [some (.ref a), some v] H _ := J2.pins_of fun p hp => by
        simp only [List.mem_singleton] at hp
        subst hp
        exact ⟨hm, J1.hok.fresh (Nat.le_refl _), Nat.ne_of_gt J1.lt, J1.nofs (Nat.le_refl _), fun v z => by cases z⟩
      show wpAny _ _ (callWith p3 (.ref h1.objs.size) [] (backTo p3 (starEach [e] (ksEnv qual scope s.heap.objs.size f (.ref cda) cc))) []) _ _ _
      have PE1 := he (cxX P w K mg base [sfS, x] qual scope f (.ref cda) cc A outer s H) rfl rfl rfl (room.deeper _)
      have PA1 := pa_cons PE1 pa_nil (hs := hst _)
      have run := PA1.run p3 _ _ _ _ (fun vs H1 => H1 = H ∧ ∃ m : Str, vs = [.str m]) J3 ⟨v, rfl, hv, fun m _ => ⟨rfl, m, rfl⟩⟩
      rw [hst] at run ⊢
      refine kxs_callWith (i := "ValueError.__init__") (x := a) rfl (evalArgs_plain (wpAny_mono run (fun us s1 ⟨vs, H1, I3, r3, eH, m, ev⟩ => ?_) fun _ _ z => z))
      subst eH ev
      have hp3 := I3.pin (h1.objs.size, kxs_mw "ValueError.__init__" a) (by simp)
      refine ⟨hp3.1, ?_⟩
      obtain ⟨t2, ho2⟩ := exo_at I3.hok ha
      obtain ⟨hp', g', d', tk', os'⟩ := s1
      have hlen : us.length ≤ sizeLine := by
        rw [← Paired.length r3, sizeLine_eq]
        simp
      refine mw_call (K := K) (x := a) (C := C) I3.kIn hin hp3.1 ho2 hlen fun h4 t4 k4 hx4 => ?_
      have J4 := I3.write (t' := tk') (x := a) (e := a) (o := exo a C none) (h' := h4) (by rw [ha]; exact True.intro) (.inl rfl) k4 ⟨_, hx4⟩ (exo_ok hx4)
      have eu : upd H1 a (exo a C none) = H1 := by
        funext b
        by_cases hb : b = a
        · rw [hb, upd_same, ha]
        · rw [upd_ne hb]
      rw [eu] at J4
      have J5 := J4.pins_of (pins' := []) (by simp)
      have PS2 : PS (cxX P w K mg base [sfS, x] qual scope f (.ref cda) cc A outer s H1) _ _ := ps_ost (f := fld) (p' := q2) (pos := q4) (pv 0 (x := sfS) (pos := q1) rfl (.inl hself)) (pv 1 (x := x) (pos := q3) rfl (.inl hx) hd1 hd2) (hsw _)
      refine wpAt_of_wpAny (wpAny_mono ((pss_one PS2).run [] _ _ _ { nx := fun σ' G => σ' = [some (.ref a), some v] ∧ Q .non G, rt := fun _ _ => False } J5 ?_) (fun fl s' hz => ?_) fun _ _ z => z)
      · exact ⟨v, rfl, .ref a, rfl, a, C, rfl, T, hno, .inl ⟨ha, fun dx hn hne => ⟨rfl, q dx hn hne⟩⟩⟩
      · cases fl with
        | next =>
          obtain ⟨σ', G, I6, rfl, q6⟩ := hz
          exact ⟨G, I6, rfl, q6⟩
        | ret z =>
          obtain ⟨_, _, _, _, _, z⟩ := hz
          exact z.elim
        | brk =>
          obtain ⟨_, _, _, z⟩ := hz
          exact z.elim
        | cont =>
          obtain ⟨_, _, _, z⟩ := hz
          exact z.elim
    · obtain ⟨G, I2, rfl, q2⟩ := hz
      exact ⟨.non, G, I2.os, I2.bare, I2.base, I2.hok, rfl, q2⟩
  · match i, h1, h2 with
    | 0, h1, h2 =>
      cases h1; cases h2
      exact ⟨_, rfl, mself, hself⟩
    | 1, h1, h2 =>
      cases h1; cases h2
      exact ⟨_, ru, mx, hx⟩
end
section
variable {X : Cx} {scope : Scope} {x a b : Str} {j1 j2 : Nat} {r1 r2 r3 r4 r5 : Pos} {k : Nat}
theorem he_var (hN : X.N = [sfS, x]) (hS : X.env.scope = scope) (hx : scope.names.lookup x = some .local) (hd1 : (x == ("__debug__" : Str)) = false) (hd2 : (x == ("__classdict__" : Str)) = false) : PE X (.Name x r2) (tVar 1) :=
  pv 1 (by rw [hN]; rfl) (.inl (by rw [hS]; exact hx)) hd1 hd2
theorem he_3 (hN : X.N = [sfS, x]) (hS : X.env.scope = scope) (hx : scope.names.lookup x = some .local) (hd1 : (x == ("__debug__" : Str)) = false) (hd2 : (x == ("__classdict__" : Str)) = false) (hr : Room k X.A) (ha : a.length ≤ 400) (hb : b.length ≤ 400) :
    PE X (.JoinedStr [.Constant (.str a) j1 r1, .FormattedValue (.Name x r2) (-1) none r3, .Constant (.str b) j2 r4] r5) (tA X.K) := by
  refine (pe_joined (.cons pe_str (.cons (pe_fmtA hr (he_var hN hS hx hd1 hd2)) (.cons pe_str .nil)))).imp fun σ H Q ⟨v, e, f, q⟩ => ?_
  have z : Str.empty.length = 0 := rfl
  refine ⟨a, rfl, by rw [strLen_append, sizeLine_eq]; omega, v, e, f, fun m hm => ⟨m, rfl, ?_, b, rfl, ?_, q _ ?_⟩⟩
  · rw [strLen_append, strLen_append, sizeLine_eq]; omega
  · rw [strLen_append, strLen_append, strLen_append, sizeLine_eq]; omega
  · rw [strLen_append, strLen_append, strLen_append]; omega
theorem he_2 (hN : X.N = [sfS, x]) (hS : X.env.scope = scope) (hx : scope.names.lookup x = some .local) (hd1 : (x == ("__debug__" : Str)) = false) (hd2 : (x == ("__classdict__" : Str)) = false) (hr : Room k X.A) (ha : a.length ≤ 400) :
    PE X (.JoinedStr [.Constant (.str a) j1 r1, .FormattedValue (.Name x r2) (-1) none r3] r5) (tA X.K) := by
  refine (pe_joined (.cons pe_str (.cons (pe_fmtA hr (he_var hN hS hx hd1 hd2)) .nil))).imp fun σ H Q ⟨v, e, f, q⟩ => ?_
  have z : Str.empty.length = 0 := rfl
  refine ⟨a, rfl, by rw [strLen_append, sizeLine_eq]; omega, v, e, f, fun m hm => ⟨m, rfl, ?_, q _ ?_⟩⟩
  · rw [strLen_append, strLen_append, sizeLine_eq]; omega
  · rw [strLen_append, strLen_append]; omega
end
theorem free1 {sc : Scope} (h : sc.names.all (fun p => (p.2 != .free) || (p.1 == ("__class__" : Str))) = true) : ∀ y, sc.names.lookup y = some .free → y = "__class__" := fun y hy => by
  have := List.all_eq_true.mp h _ (PySem.mem_of_lookup hy)
  simp at this
  exact this
end EX
end
section
namespace OW
open PySem PySem.Spec PyProof.Rows L2
/-! list(o), where o's __iter__ gives the iterator of a tuple -/
section
variable {X : Cx} {pins : List (Addr × Obj)} {σ : L2.St} {H : Hp} {A1 : Around} {t it q : Addr} {zs : List V} {Rs : Result → Shared → Prop}
theorem tit_loop (hh : A1.in1.handled = none) (hq : it ≠ q) (hf : ∀ acc, FpOk X pins (upd H q (.lst acc)) it) (ht : ∀ acc, SqT X.K (upd H q (.lst acc)) t zs)
    (hdone : ∀ s, Inv X pins σ (upd H q (.lst zs)) s → Rs (.ok (.ret .none)) s) :
    ∀ (m i : Nat) (s : Shared), zs.length - i = m → i ≤ zs.length → Inv X pins σ (upd H q (.lst (zs.take i))) s → s.heap.IsTupleIter it t i →
    codeAny (model X.prog X.w) A1 (.builtin "list.extend.loop" ⟨[.ref q, .ref it, .none], []⟩) Rs s := by
  intro m
  induction m with
  | zero =>
    intro i s em hi I st
    have ei : i = zs.length := by omega
    subst ei
    rw [List.take_length] at I
    (refine codeAny_builtin PySem.F.entry_extend_loop ?_)
    (rw [Around.under_plainId PySem.F.plain_extend_loop _])
    show wpAny _ A1.in1 (pyNext (.ref it) >>= _) _ _ s
    obtain ⟨its, rv, p, hz⟩ := I.tuple (ht _)
    have hl := rv.length
    obtain ⟨f0, f1, f2, f3, f4, f5⟩ := hf zs
    refine wpAny_bind (wpAny_pyNext_tuple_end hh st (show s.heap.IsTuple t its.toArray from p) (by simp; omega) fun h' eb => ?_)
    exact wpAny_pure (hdone _ (I.turned (t' := s.toks) (fun b o hb e => eb b o hb e) f0 f1 f3 f4 f5))
  | succ m ih =>
    intro i s em hi I st
    have hlt : i < zs.length := by omega
    (refine codeAny_builtin PySem.F.entry_extend_loop ?_)
    (rw [Around.under_plainId PySem.F.plain_extend_loop _])
    show wpAny _ A1.in1 (pyNext (.ref it) >>= _) _ _ s
    obtain ⟨its, rv, p, hz⟩ := I.tuple (ht _)
    obtain ⟨u, hu, ru⟩ := rv.get (List.getElem?_eq_getElem hlt)
    obtain ⟨f0, f1, f2, f3, f4, f5⟩ := hf (zs.take i)
    refine wpAny_bind (wpAny_pyNext_tuple_item st (show s.heap.IsTuple t its.toArray from p) (x := u) (by simpa using hu) fun h' st' sb => ?_)
    have I1 : Inv X pins σ (upd H q (.lst (zs.take i))) { s with heap := h' } := I.turned (t' := s.toks) (fun b o hb e => (sb.2 b hb).trans e) f0 f1 f3 f4 f5
    (show wpAny _ A1.in1 (updateSeq q (·.push u) >>= _) _ _ _)
    obtain ⟨z, its2, k, r2, hl2, e⟩ := I1.lstM upd_same
    have lt : (zs.take i).length = i := by rw [List.length_take]; omega
    have l2 : its2.length = i := by rw [← r2.length, lt]
    refine wpAny_bind (wpAny_updateSeq e rfl (wpAny_pure ⟨plainId_quiet PySem.F.plain_extend_loop _, ?_⟩) (by rw [List.size_toArray]; omega) (by show (its2.toArray.push u).size ≤ sizeLine + 1; rw [Array.size_push, List.size_toArray]; omega))
    have I2 := I1.lset (f := (·.push u)) (its' := its2 ++ [u]) (ys := zs.take i ++ [zs[i]]) (t' := s.toks) upd_same e (by simp) (r2.append (.cons ru .nil)) (by rw [List.length_append, List.length_singleton]; omega)
    rw [upd_upd, List.take_append_getElem hlt] at I2
    exact ih (i + 1) _ (by omega) hlt I2 (st'.at fun o e => (Heap.get?_update_other _ _ (fun h : q = it => hq h.symm)).trans e)
end
theorem hintless {M : Model} {A : Around} {E : Value → Shared → Prop} {Q : Bool → Shared → Prop} {K : PySem.W.Frag} {C a : Addr} {s : Shared} {ox : Obj} {od : Option Obj} (n1 : PySem.W.findIn K (.ref C) "__len__" = some none) (n2 : PySem.W.findIn K (.ref C) "__length_hint__" = some none)
    (hK : K.In s.heap) (J : PySem.W.InstAt s.heap a ox C od) (h : Q true s) : wpAny M A (Builtin.List.listLengthHint (.ref a)) Q E s := by
  (unfold Builtin.List.listLengthHint)
  refine wpAny_bind (wpAny_bind (J.type.here ((PySem.W.looks_findIn hK n1).here ?_)))
  refine PySem.W.KFB.if_not rfl (PySem.W.KFB.if_not rfl ?_)
  refine wpAny_bind (wpAny_bind (J.type.here ((PySem.W.looks_findIn hK n2).here ?_)))
  exact wpAny_pure h
/-- the list of an own object's tuple -/
def rOwnT (K : PySem.W.Frag) (C : Addr) (sp : Nat → Sp) : List V → Hp → VK → Prop := fun xs H Q => ∃ a dx fs, xs = [.ref a] ∧ H a = some (.ins C dx fs) ∧
  ∀ q n, H q = none → sp n [.ref a] (upd H q (.lst [])) (fun v G => ∃ it t zs, v = .ref it ∧ n ≤ it ∧ upd H q (.lst []) it = none ∧ G = upd (upd H q (.lst [])) it (TIt t it) ∧ (∀ acc, SqT K (upd H q (.lst acc)) t zs) ∧ Q (.ref q) (upd H q (.lst zs))) E0
section
variable {X : Cx} {k : Nat} {C f : Addr} {fd : FuncData} {ps : List Str} {sp : Nat → Sp}
theorem call_listT (hcalm : X.calm = true) (M : Meth X.K C "__iter__" f) (F : FnS X.prog X.w X.K X.mg X.base k f fd ps sp) (room : Room (k + 2) X.A) (bd : Binds X.K fd ps []) (n1 : PySem.W.findIn X.K (.ref C) "__len__" = some none) (n2 : PySem.W.findIn X.K (.ref C) "__length_hint__" = some none) :
    CallR X (.type "list") (rOwnT X.K C sp) := by
  (intro pins s σ H xs us Q I rv h)
  (obtain ⟨a, dx, fs, rfl, ha, hq⟩ := h)
  obtain ⟨u, rfl, ru⟩ := rv.one
  cases ru
  have sb : Sub X k X.A.in1.in1 := (Sub.in1 (Sub.in1 (⟨room, rfl⟩ : Sub X (k + 2) X.A)))
  refine callType_codes (Q₁ := fun obj s₁ => obj = .ref s.heap.objs.size ∧ s₁ = { s with heap := s.heap.push { cls := .type "list", data := .seq #[] } }) PySem.F.called_list (PySem.F.typeCall_list_1 _) PySem.F.entry_list_init (code_list_new _ ⟨rfl, rfl⟩) (fun obj s₁ h₁ => ?_)
  obtain ⟨rfl, rfl⟩ := h₁
  (have hS : (s.heap.push { cls := .type "list", data := .seq #[] }).get? s.heap.objs.size = some { cls := .type "list", data := .seq #[] } := Heap.get?_push_size _ rfl)
  (refine ⟨⟨_, hS, rfl⟩, PySem.F.args_list_init_2 _ _, ?_⟩)
  (have fr : H s.heap.objs.size = none := I.hok.fresh (Nat.le_refl _))
  (have I1 : Inv X pins σ (upd H s.heap.objs.size (.lst [])) { s with heap := s.heap.push { cls := .type "list", data := .seq #[] } } := I.lnew (its := []) (t' := s.toks) .nil (Nat.zero_le _))
  (show wpAny _ _ (do let old ← Builtin.List.listItems (.ref s.heap.objs.size); Builtin.List.listUpdate (.ref s.heap.objs.size) (fun _ => #[]); letGo old.toList.reverse; Builtin.List.listExtendWith (.ref s.heap.objs.size) (.ref a) .none) _ _ _)
  refine wpAny_bind ?_
  unfold Builtin.List.listItems
  (refine wpAny_bind (wpAny_seqItems hS rfl (wpAny_pure ?_)))
  (show wpAny _ _ (updateSeq s.heap.objs.size (fun _ => #[]) >>= fun _ => letGo (#[] : Array Value).toList.reverse >>= fun _ => Builtin.List.listExtendWith (.ref s.heap.objs.size) (.ref a) .none) _ _ _)
  (refine wpAny_bind (wpAny_updateSeq hS rfl ?_))
  (have I2 := I1.lset (f := fun _ => #[]) (its := []) (its' := []) (ys := []) (t' := s.toks) upd_same hS rfl .nil (Nat.zero_le _))
  rw [upd_upd] at I2
  (refine wpAny_bind (wpAny_letGo ?_))
  have hne : s.heap.objs.size ≠ a := fun z => by rw [← z, fr] at ha; cases ha
  (have ha2 : upd H s.heap.objs.size (.lst []) a = some (.ins C dx fs) := by rw [upd_ne (ne_of_none ha fr)]; exact ha)
  generalize s.heap.objs.size = q at *
  generalize ({ s with heap := _ } : Shared) = s₁ at I2
  have hq := hq q s₁.heap.objs.size fr
  obtain ⟨ox, od, J⟩ := inst I2 ha2
  obtain ⟨m', hF⟩ := I2.fr
  (unfold Builtin.List.listExtendWith)
  (refine wpAny_bind (J.type.here ?_))
  (have h1 : Builtin.List.listSameRef (.ref q) (.ref a) = false := by simp [Builtin.List.listSameRef, hne])
  (have h2 : (Value.ref C == Value.type "list") = false := rfl)
  (have h3 : (Value.ref C == Value.type "tuple") = false := rfl)
  (simp only [h1, h2, h3, Bool.or_false, Bool.false_eq_true, if_false])
  refine wpAny_bind (PySem.W.owit_iter hF I2.ok.mod.kin J M.at_ M.fn ?_)
  have e0 : Env0 X.prog X.w X.K X.mg X.base X.A.in1.in1 X.stack s₁ (upd H q (.lst [])) := by
    have e := I2.env0
    (exact ⟨by rw [sb.fr]; exact e.frames, e.mod, e.bs, e.bsz, e.funs, e.frf, e.hok, e.bare⟩)
  have len := (F.len _ _ _ _ _ hq)
  refine wpAny_call (codeAny_mono (F.run X.A.in1.in1 X.stack s₁ _ ⟨[.ref a], []⟩ [.ref a] [.ref a] _ E0 sb.room e0 (bd s₁ [.ref a] I2.kIn (by simpa using len)) (.cons rfl .nil) hq) fun r s2 hr => ?_)
  cases r with
  | error er => exact hr.elim
  | ok fl =>
    cases fl with
    | ret u =>
      obtain ⟨v, G3, I3, rv, it, t, zs, ev, young, frI, eG, hsq, hQ⟩ := I2.after hr
      subst ev eG
      cases rv
      have hx : upd (upd H q (.lst [])) it (TIt t it) it = some (TIt t it) := upd_same
      have st : s2.heap.IsTupleIter it t 0 := (I3.hok it _ hx).1
      have tyI : s2.TypeIs (.ref it) "tuple_iterator" := st.typeIs
      change PySem.W.OwitIt _ _ _ _ (.ref it) s2
      unfold PySem.W.OwitIt
      refine wpAny_specialOf (name := "__next__") tyI PySem.F.slot_tuple_iterator_next.lookup ?_
      have I4 := ItX.inv_drop I3 hx
      have gone : ItX.dropH (upd (upd H q (.lst [])) it (TIt t it)) it = upd H q (.lst []) := ItX.dropH_upd frI
      rw [gone] at I4
      have niq : it ≠ q := fun z => by rw [z, upd_same] at frI; cases frI
      have nia : it ≠ a := fun z => by rw [z, ha2] at frI; cases frI
      have fp : ∀ acc, FpOk X pins (upd H q (.lst acc)) it := fun acc => by
        have z := ItX.inv_fp I3 hx (Nat.le_trans I2.sz young)
        rw [gone] at z
        obtain ⟨z0, z1⟩ := z
        refine ⟨?_, z1⟩
        rw [upd_ne niq] at z0 ⊢
        exact z0
      obtain ⟨ox', od', J'⟩ := inst I4 ha2
      refine wpAny_bind (wpAny_holding (hintless n1 n2 I4.kIn J' ?_))
      obtain ⟨z, its, k3, r3, hl3, e3⟩ := I4.lstM upd_same
      cases r3
      have fin : ∀ (c : Nat) (s' : Shared), Inv X pins σ (upd H q (.lst [])) s' → s'.heap.IsTupleIter it t 0 → codeAny (model X.prog X.w) X.A.in1 (.builtin "list.extend.loop" ⟨[.ref q, .ref it, .none], []⟩) (wants (fun r s₂ => r = .none ∧ EP X pins σ Q (.ref q) s₂) X.xe) s' := fun c s' I' st' =>
        tit_loop (A1 := X.A.in1) (Rs := wants (fun r s₂ => r = .none ∧ EP X pins σ Q (.ref q) s₂) X.xe) (I2.ok.hd hcalm) niq fp hsq (fun s'' I'' => ⟨rfl, .ref q, _, I'', rfl, hQ⟩) _ 0 s' rfl (Nat.zero_le _) (by simpa using I') st'
      refine wpAny_ite_split (fun _ => ?_) (fun _ => wpAny_pure ⟨plainId_quiet PySem.F.plain_extend_loop _, fin 0 _ I4 st⟩)
      (refine wpAny_bind (wpAny_rule ?_))
      refine wpAny_bind ?_
      (show wpAny _ _ (updateSeq q (·.push .none) >>= fun _ => updateSeq q (·.pop)) _ _ _)
      (refine wpAny_bind (wpAny_updateSeq e3 rfl ?_))
      have I5 := I4.lset (f := (·.push Value.none)) (its' := [Value.none]) (ys := [.non]) (t' := s2.toks) upd_same e3 (by simp) (.cons rfl .nil) (by rw [List.length_singleton, sizeLine_eq]; decide)
      obtain ⟨z4, its4, k4, r4, hl4, e4⟩ := I5.lstM upd_same
      (obtain ⟨u4, rfl, ru4⟩ := r4.one)
      (refine wpAny_updateSeq e4 rfl ?_ (by show 1 ≤ sizeLine; rw [sizeLine_eq]; decide) (by show 0 ≤ sizeLine + 1; exact Nat.zero_le _))
      have I6 := I5.lset (f := (·.pop)) (its := [u4]) (its' := []) (ys := []) (t' := s2.toks) upd_same e4 (by rfl) .nil (Nat.zero_le _)
      rw [upd_upd, upd_upd] at I6
      exact wpAny_pure ⟨plainId_quiet PySem.F.plain_extend_loop _, fin 0 _ I6 (st.at fun o e => (Heap.get?_update_other _ _ (Ne.symm niq)).trans ((Heap.get?_update_other _ _ (Ne.symm niq)).trans e))⟩
    | next => exact False.elim hr
    | brk => exact False.elim hr
    | cont => exact False.elim hr
end
end OW
end
section
/-! exceptions with a value of their own -/
namespace PL
open PySem PySem.Spec PyProof.Rows L2
variable {K : PySem.W.Frag} {ad : Cl → Addr} {ct : CT}
variable {fr : Fr} {F F' H H' : Hp} {σ : L2.St} {ρ : List Sl} {W : WX}
/-- a value that may be told in a text -/
def fmtD : D → Bool
  | .str y => decide (y.length ≤ 3000)
  | .int k => decide (k.natAbs.log2 < 1920)
  | .tup xs => match D.ints xs with | some l => decide (l.length ≤ 4) && l.all fun i => decide (i.natAbs.log2 < 1920) | none => false
  | _ => false
theorem ints_of : ∀ {xs : List D} {l : List Int}, D.ints xs = some l → xs = l.map D.int
  | [], l, h => by cases h; rfl
  | x :: xs, l, h => by
    cases x <;> try (simp [D.ints] at h; done)
    rename_i i
    have h : (D.ints xs).map (i :: ·) = some l := h
    obtain ⟨a, e, rfl⟩ := map_some h
    rw [ints_of e]
    rfl
theorem fmtD_ok {d : D} {v : V} (h : fmtD d = true) (r : Rp K ct.ad F v d) (s : Same F H) : EX.FmtOk K v H := by
  cases d with
  | str y => cases r; exact .inl ⟨_, rfl, of_decide_eq_true h⟩
  | int i => cases r; exact .inr (.inl ⟨_, rfl, of_decide_eq_true h⟩)
  | tup xs =>
    have h : (match D.ints xs with | some l => decide (l.length ≤ 4) && l.all fun i => decide (i.natAbs.log2 < 1920) | none => false) = true := h
    cases e : D.ints xs with
    | none => (rw [e] at h; cases h)
    | some l =>
      rw [e] at h
      have h9 : (decide (l.length ≤ 4) && l.all fun i => decide (i.natAbs.log2 < 1920)) = true := h
      rw [Bool.and_eq_true, decide_eq_true_iff, List.all_eq_true] at h9
      have e := ints_of e
      subst e
      cases r with
      | tup ht hs =>
        have := hs.ints
        subst this
        exact .inr (.inr ⟨_, l, rfl, sameT s ht, h9.1, fun i hi => of_decide_eq_true (h9.2 i hi)⟩)
  | _ => cases h
def evRaiseP (c : Cl) (m : Ev) : M Fl := bnd (dat m) fun d => if fmtD d = true then (fun ρ => some (.er c (some d), ρ)) else fai
theorem s_raiseP {X : Cx} {x f x' : Str} {k : Nat} {fI : Addr} {fd : FuncData} {p pos pos' : Pos} {e : Expr} {fe : Ev} (c : Cl) (eK : X.K = K) (hc : X.calm = true) (tk : Takes X W) (Tx : OexC X.K (ct.ad c)) (iC : PySem.W.findIn X.K (.ref (ct.ad c)) "__init__" = some (some (.ref fI))) (tI : PySem.W.typeIn X.K (.ref fI) = some (.type "function"))
    (F1 : FnOk X.prog X.w X.K X.mg X.base CX0 k fI fd [EX.sfS, x'] (EX.spE X.K (ct.ad c) f)) (hfn : c.fn = [f]) (hr : Room (k + 1) X.A) (hb : Binds X.K fd [EX.sfS, x'] []) (gC : X.mg x = some (.ref (ct.ad c))) (hg : Gl X x)
    (he : PE X e (TP K ct W fe)) (hs : starEach [e] X.env = (false, eval e X.env) :: starEach [] X.env := by rfl) (hdb : (x == ("__debug__" : Str)) = false := by decide) : PS X (.Raise (some (.Call (.Name x p) [e] [] pos)) none pos') (TSt K ct W (evRaiseP c fe)) := by
  subst eK
  refine (ps_raise hc tk (pmk_oex Tx iC tI F1 hr hb .nil pass0 hg gC (pa_cons he pa_nil hs) hdb hs)).imp fun D σ H ⟨fr, F, ρ, S, h⟩ => ?_
  show T X.K ct (RV X.K ct.ad) W fe σ H _
  refine Sat.dat h S fun F1 H1 ρ1 v d s1 S1 r1 h => ?_
  refine ⟨by simp, fun a ha => ?_⟩
  obtain ⟨r, ρ', e0, q⟩ := h
  split at e0
  · rename_i hf
    cases e0
    have same1 : Same H1 (upd H1 a (exo a (ct.ad c) none)) := same_up ha
    refine ⟨a, v, rfl, upd_same, fmtD_ok hf r1 (S1.fh.trans same1), fun dx hn hne => ⟨rfl, dx, [(f, v)], upd_same, ?_, ?_, ?_⟩⟩
    · rw [upd_ne hne, upd_same]
    · rw [upd_ne hne] at hn
      exact hn
    · have hn1 : H1 dx = none := by rw [upd_ne hne] at hn; exact hn
      have eH : upd (del (upd (upd (upd H1 a (exo a (ct.ad c) none)) dx (exd dx [(f, v)])) a (exo a (ct.ad c) (some dx))) a) dx (.xd [(f, v)]) = upd H1 dx (.xd [(f, v)]) := by
        funext b
        by_cases h1 : b = dx
        · subst h1; rw [upd_same, upd_same]
        · rw [upd_ne h1, upd_ne h1]
          by_cases h2 : b = a
          · subst h2; rw [del_same, ha]
          · rw [del_ne h2, upd_ne h2, upd_ne h1, upd_ne h2]
      rw [eH]
      refine q σ (some dx) (upd F1 dx (.xd [(f, v)])) _ (same_up (S1.nn hn1)) (S1.newD hn1) ⟨dx, f, v, rfl, hfn, upd_same, r1.mono (same_up (S1.nn hn1))⟩
  · cases e0
/-! ### list(o) of an own object, list.clear -/
def gLstO (c : Cl) (i : Nat) : List D → Option CC
  | [.obj c' xs] => if c' = c then (match xs[i]? with | some (.tup ys) => some (.lst ys) | _ => none) else none
  | _ => none
theorem ob_lstO {f : Str} (c : Cl) (i : Nat) (hi : c.fn.findIdx? (fun k => f == k) = some i := by decide) : OBc K ad (OW.rOwnT K (ad c) (spIt K (ad c) f)) (gLstO c i) := by
  intro F H vs ds z Q s r e q
  unfold gLstO at e
  split at e
  · rename_i c' xs
    split at e
    · rename_i ec
      subst ec
      split at e
      · rename_i ys e1
        cases e
        obtain ⟨v, rfl, rv⟩ := one_i r
        cases rv with
        | @obj p dx _ vs _ h1 l1 k1 =>
          obtain ⟨w, g1, g2⟩ := k1.get e1
          cases g2 with
          | @tup t us _ h2 k2 =>
            refine ⟨p, dx, _, rfl, s _ _ h1, fun l n hl => ?_⟩
            have s2 : ∀ acc, Same F (upd H l (.lst acc)) := fun acc => s.trans (same_up hl)
            refine ⟨p, dx, t, _, us, rfl, s2 _ _ _ h1, by rw [look_zip l1 hi, g1], sameT (s2 _) h2, fun it fresh young => ⟨it, t, us, rfl, young, fresh, rfl, fun acc => sameT (s2 _) h2, q l _ hl fun _ => ⟨_, upd_same, k2⟩⟩⟩
      · cases e
    · cases e
  · cases e
def fClr : List D → List D → Option (D × List D) | _, [] => some (.non, []) | _, _ => none
theorem ol_clr : OL K ct.ad rClear fClr := by
  intro F H p vs us xs ds ys z Q s h1 h2 h3 e q
  cases h3 with
  | nil => cases e; exact ⟨p, vs, rfl, rfl, h1, q _ _ .non .nil⟩
  | cons _ _ => cases e
theorem pp_bmL0 {X : Cx} {cpos apos p : Pos} {x : Str} {id : String} {name : Str} {rr : V → List V → Hp → VK → Prop} {f : List D → List D → Option (D × List D)} (j : Nat) (eK : X.K = K) (O : OL K ct.ad rr f) (pa : PlainAttrs "list") (slot : Slot "list" name id) (hty : typeOf (.builtin id) = pure (.type "method_descriptor")) (hm : MtR X id rr) (ho : PE X (.Name x p) (tVar j))
    (hbase : attributeBase (.Name x p) name X.env (eval (.Name x p) X.env) = eval (.Name x p) X.env := by rfl) (hline : (apos.endLine == cpos.line) = true := by rfl) :
    PE X (.Call (.Attribute (.Name x p) name apos) [] [] cpos) (TP K ct W (evBmL j f [])) := by
  subst eK
  refine (pe_bm0 pa slot hty hm ho hbase hline).imp fun σ H Q h => ?_
  obtain ⟨v, h1, h2, fr, F, ρ, S, r, ρ', e, q⟩ := w_bmL O h
  cases e
  exact ⟨v, h1, h2, q [] F H (Same.refl _) S .nil⟩
/-! ### sorted(xs), xs a list of pairs of ints -/
def pD (k : Int × Int) : D := .tup [.int k.1, .int k.2]
def prs : List D → Option (List (Int × Int))
  | [] => some []
  | .tup [.int a, .int b] :: r => (prs r).map ((a, b) :: ·)
  | _ => none
theorem prs_of : ∀ {xs : List D} {ks : List (Int × Int)}, prs xs = some ks → xs = ks.map pD
  | [], ks, h => by cases h; rfl
  | x :: xs, ks, h => by
    unfold prs at h
    split at h
    · rename_i e
      cases e
    · rename_i a b r e
      cases e
      obtain ⟨l, e1, rfl⟩ := map_some h
      rw [prs_of e1]
      rfl
    · cases h
theorem prs_map : ∀ ks : List (Int × Int), prs (ks.map pD) = some ks
  | [] => rfl
  | k :: ks => by
    show (prs (ks.map pD)).map ((k.1, k.2) :: ·) = _
    rw [prs_map ks]
    rfl
/-- the order of pairs -/
def PLe (a b : Int × Int) : Prop := a.1 < b.1 ∨ (a.1 = b.1 ∧ a.2 ≤ b.2)
instance (a b : Int × Int) : Decidable (PLe a b) := by unfold PLe; infer_instance
def insP (k : Int × Int) : List (Int × Int) → List (Int × Int)
  | [] => [k]
  | x :: r => if PLe k x then k :: x :: r else x :: insP k r
def srtP : List (Int × Int) → List (Int × Int)
  | [] => []
  | k :: r => insP k (srtP r)
theorem insP_perm (k : Int × Int) : ∀ l, (insP k l).Perm (k :: l)
  | [] => .refl _
  | x :: r => by
    unfold insP
    split
    · exact .refl _
    · exact ((insP_perm k r).cons x).trans (.swap k x r)
theorem srtP_perm : ∀ l, (srtP l).Perm l
  | [] => .refl _
  | k :: r => (insP_perm k _).trans ((srtP_perm r).cons k)
theorem insP_asc (k : Int × Int) : ∀ {l}, l.Pairwise PLe → (insP k l).Pairwise PLe
  | [], _ => by simp [insP]
  | x :: r, h => by
    have h2 := List.pairwise_cons.mp h
    unfold insP
    split
    · rename_i c
      refine List.pairwise_cons.mpr ⟨fun y hy => ?_, h⟩
      (rcases List.mem_cons.mp hy with e | e)
      · subst e; exact c
      · have := h2.1 y e
        unfold PLe at *
        omega
    · rename_i c
      refine List.pairwise_cons.mpr ⟨fun y hy => ?_, insP_asc k h2.2⟩
      rcases List.mem_cons.mp ((insP_perm k r).mem_iff.mp hy) with e | e
      · subst e
        unfold PLe at *
        omega
      · exact h2.1 y e
theorem srtP_asc : ∀ l, (srtP l).Pairwise PLe
  | [] => .nil
  | k :: r => insP_asc k (srtP_asc r)
theorem asc_uniq : ∀ {l m : List (Int × Int)}, l.Perm m → l.Pairwise PLe → m.Pairwise PLe → l = m
  | [], m, h, _, _ => by rw [h.nil_eq]
  | a :: l, [], h, _, _ => by have := h.length_eq; simp at this
  | a :: l, b :: m, h, h1, h2 => by
    have p1 := List.pairwise_cons.mp h1
    have p2 := List.pairwise_cons.mp h2
    have e : a = b := by
      have ab : PLe a b := by
        rcases List.mem_cons.mp (h.mem_iff.mpr List.mem_cons_self) with e | e
        · rw [e]; unfold PLe; omega
        · exact p1.1 b e
      have ba : PLe b a := by
        rcases List.mem_cons.mp (h.mem_iff.mp List.mem_cons_self) with e | e
        · rw [e]; unfold PLe; omega
        · exact p2.1 a e
      unfold PLe at ab ba
      exact Prod.ext (by omega) (by omega)
    subst e
    rw [asc_uniq (h.cons_inv) p1.2 p2.2]
theorem Rps.perm {ys us : List V} (h : ys.Perm us) : ∀ {ds : List D}, Rps K ad F us ds → ∃ es, es.Perm ds ∧ Rps K ad F ys es := by
  induction h with
  | nil => intro ds r; exact ⟨ds, .refl _, r⟩
  | cons x _ ih =>
    intro ds r
    cases r with
    | cons a t =>
      obtain ⟨es, p, r⟩ := ih t
      exact ⟨_ :: es, p.cons _, .cons a r⟩
  | swap x y l =>
    intro ds r
    cases r with
    | cons a t => cases t with
      | cons b t => exact ⟨_, .swap _ _ _, .cons b (.cons a t)⟩
  | trans _ _ ih1 ih2 =>
    intro ds r
    obtain ⟨es, p, r⟩ := ih2 r
    obtain ⟨fs, p2, r⟩ := ih1 r
    exact ⟨fs, p2.trans p, r⟩
theorem Rps.at_ {us : List V} {ds : List D} (r : Rps K ad F us ds) : ∀ x ∈ us, ∃ d ∈ ds, Rp K ad F x d := by
  induction us generalizing ds with
  | nil => intro x hx; simp at hx
  | cons u us ih =>
    intro x hx
    cases r with
    | cons a t =>
      rcases List.mem_cons.mp hx with e | e
      · subst e; exact ⟨_, List.mem_cons_self, a⟩
      · obtain ⟨d, hd, q⟩ := ih t x e
        exact ⟨d, List.mem_cons_of_mem _ hd, q⟩
theorem Rps.back {us : List V} {ds : List D} (r : Rps K ad F us ds) : ∀ d ∈ ds, ∃ x ∈ us, Rp K ad F x d := by
  induction us generalizing ds with
  | nil => cases r; intro x hx; simp at hx
  | cons u us ih =>
    cases r with
    | cons a t =>
      intro d hd
      rcases List.mem_cons.mp hd with e | e
      · subst e; exact ⟨_, List.mem_cons_self, a⟩
      · obtain ⟨d, hd, q⟩ := ih t d e
        exact ⟨d, List.mem_cons_of_mem _ hd, q⟩
theorem Rps.pw {P : V → V → Prop} {R : D → D → Prop} (g : ∀ x y d e, P x y → Rp K ad F x d → Rp K ad F y e → R d e) : ∀ {us : List V} {ds : List D}, Rps K ad F us ds → us.Pairwise P → ds.Pairwise R := by
  intro us
  induction us with
  | nil => intro ds r _; cases r; exact .nil
  | cons u us ih =>
    intro ds r h
    cases r with
    | cons a t =>
      have h := List.pairwise_cons.mp h
      refine List.pairwise_cons.mpr ⟨fun e he => ?_, ih t h.2⟩
      obtain ⟨x, hx, q⟩ := t.back e he
      exact g _ _ _ _ (h.1 x hx) a q
theorem tupI_of {H : Hp} {x : V} {k : Int × Int} (s : Same F H) (r : Rp K ad F x (pD k)) : TupI K H x [k.1, k.2] := by
  cases r with
  | tup ht hs =>
    cases hs with
    | cons a t => cases t with
      | cons b t => cases t; cases a; cases b; exact ⟨_, rfl, sameT s ht⟩
def unD : D → Int × Int | .tup [.int a, .int b] => (a, b) | _ => (0, 0)
def gSrtP : List D → Option CC
  | [.lst xs] => match prs xs with
    | some ks => if ks.length < 64 ∧ ∀ k ∈ ks, (0 ≤ k.1 ∧ k.1 < 1000) ∧ 0 ≤ k.2 ∧ k.2 < 1000 then some (.lst ((srtP ks).map pD)) else none
    | none => none
  | _ => none
theorem ob_srtP : OBc K ad (rSortU K 2 1000) gSrtP := by
  intro F H vs ds z Q s r e q
  unfold gSrtP at e
  split at e
  · rename_i xs
    split at e
    · rename_i ks e1
      split at e
      · rename_i hk
        cases e
        have e1 := prs_of e1
        subst e1
        obtain ⟨v, rfl, rv⟩ := one_i r
        cases rv with
        | @lst p us _ h1 h2 =>
          have bd : ∀ k ∈ ks, TS.Bd 1000 [k.1, k.2] := fun k m i hi => by
            have := hk.2 k m
            simp at hi
            omega
          refine ⟨p, us, rfl, SqL.of (s _ _ h1), by rw [h2.len, List.length_map]; exact hk.1, fun x hx => ?_, fun ys l hp hs hl => ?_⟩
          · obtain ⟨d, hd, rx⟩ := h2.at_ x hx
            obtain ⟨k, m, rfl⟩ := List.mem_map.mp hd
            exact ⟨_, tupI_of s rx, rfl, bd k m⟩
          · obtain ⟨es, p1, r1⟩ := Rps.perm hp h2
            have e2 : es = (es.map unD).map pD := by
              rw [List.map_map]
              refine (List.map_id' es).symm.trans (List.map_congr_left fun d hd => ?_)
              obtain ⟨k, m, rfl⟩ := List.mem_map.mp (p1.mem_iff.mp hd)
              rfl
            have p2 : (es.map unD).Perm ks := by
              have := p1.map unD
              rw [List.map_map] at this
              have e3 : ks.map (unD ∘ pD) = ks := (List.map_congr_left fun k _ => rfl).trans (List.map_id' ks)
              rwa [e3] at this
            have asc : (es.map unD).Pairwise PLe := by
              rw [List.pairwise_map]
              refine (Rps.pw (R := fun d e => d ∈ ks.map pD → e ∈ ks.map pD → PLe (unD d) (unD e)) (fun x y d e c rx ry hd he => ?_) r1 hs).imp_of_mem fun {a b} ha hb g => g (p1.mem_iff.mp ha) (p1.mem_iff.mp hb)
              obtain ⟨k, m, rfl⟩ := List.mem_map.mp hd
              obtain ⟨k', m', rfl⟩ := List.mem_map.mp he
              have := c _ _ (tupI_of s rx) (tupI_of s ry)
              exact code_lex (bd k m) (bd k' m') this
            have e4 : es.map unD = srtP ks := asc_uniq (p2.trans (srtP_perm ks).symm) asc (srtP_asc ks)
            rw [e2, e4] at r1
            exact q l _ hl fun _ => ⟨ys, upd_same, r1⟩
      · cases e
    · cases e
  · cases e
/-! ### C.m(..), m a classmethod that raises -/
section
variable {X : Cx} {CX : CXT} {k : Nat} {f q : Addr} {fd : FuncData} {ps : List Str} {x m : Str} {p pos apos : Pos} {e o : Expr} {es : List Expr} {n : Nat} {G : Fn} {as : List AE} {mc : Value} {sp : Sp}
theorem run_cmS {C : Addr} {b : Addr} {E : L2.St → XK} {Q : VK} {us : List Value} {vs : List V} {pins : List (Addr × Obj)} {s : Shared} (Fn : FnR X.prog X.w X.K X.mg X.base CX k f sp) (hr : Room k X.A) (hx : PassesAt CX X σ (E σ)) (I : Inv X ((b, PySem.W.methodObj (.ref f) (.ref C)) :: pins) σ H s)
    (r : Vals vs us) (h : sp (.ref C :: vs) H Q (E σ)) : wpAny (model X.prog X.w) X.A (call (.ref b) us) (EP X pins σ Q) X.xe s := by
  have z : wpAny (model X.prog X.w) X.A (call (.ref b) us) (EP X ((b, PySem.W.methodObj (.ref f) (.ref C)) :: pins) σ Q) X.xe s :=
    wpAny_call (PySem.W.method_call (ClX.pin_at I) (codeAny_mono (Fn X.A X.stack s H (.ref C :: us) (.ref C :: vs) Q (E σ) hr I.env0 (.cons rfl r) h) fun z s1 y => by
      cases z with
      | error e => exact hx _ H s e s1 I y
      | ok fl => cases fl with
        | ret u => exact I.after y
        | _ => exact y.elim))
  exact thn z fun _ _ y => ClX.unpinE y
def tCMS (C : Addr) (sp : Sp) (E : L2.St → XK) (ta : TE) (t : TA) : TE := fun σ H Q => ta σ H fun x H1 => x = .ref C ∧ t σ H1 fun vs H2 => sp (.ref C :: vs) H2 Q (E σ)
theorem pe_cmS {C : Addr} {pl : Sem Bool} {E : L2.St → XK} {ta : TE} {t : TA} (he : PE X o ta) (r : ClX.CRead X.K C mc) (c : ClX.CMet X.K C mc m q f) (Fn : FnR X.prog X.w X.K X.mg X.base CX k f sp) (hr : Room k X.A) (hx : ∀ σ, PassesAt CX X σ (E σ)) (ha : PA X (e :: es) t)
    (hst : starEach (e :: es) X.env = (false, eval e X.env) :: starEach es X.env := by rfl) (hpl : (backTo pos (starEach es X.env)).any (·.1) = false := by rfl)
    (ht : CallsM X o m apos pos pl (e :: es) := by rfl) : PE X (.Call (.Attribute o m apos) (e :: es) [] pos) (tCMS C sp E ta t) := by
  (refine ⟨fun pins s σ H Q I h => ?_⟩)
  (refine PySem.W.methodCall_KW (pl := pl) (thn (he.run pins s σ H _ I h) fun u s1 ⟨x, H1, I1, rx, ex, q⟩ => ?_) ht)
  subst ex
  (obtain rfl : u = Value.ref C := rx)
  refine ClX.getmethcm_ok I1 r c fun s2 I2 => ?_
  refine ClX.callwith_cm I2 (ClX.base_none I1 (Nat.le_refl _)) c.fi (thn (ha.run pos _ s2 σ H1 _ I2 q) fun us s3 ⟨vs, H2, I3, rv, q2⟩ => ⟨⟨ClX.pin_at I3, I3.kIn⟩, ?_⟩) hst hpl
  exact run_cmS Fn hr (hx σ) I3 rv q2
def evCallCS (n : Nat) (G : Fn) (c : Cl) (as : List AE) : Ev := bnd (evAs as) fun ar => callG n G (.d (.cl c) :: ar)
theorem pp_cmS (c : Cl) (he : PE X o (tC (.ref (ct.ad c)))) (r : ClX.CRead X.K (ct.ad c) mc) (cm : ClX.CMet X.K (ct.ad c) mc m q f) (Fn : FnOk X.prog X.w X.K X.mg X.base (L2.CX X.prog X.w) k f fd ps (spP K ct.ad n G)) (tk : Takes X W) (hr : Room k X.A) (hb : Binds X.K fd ps []) (ha : PA X (e :: es) (TAr K ct W (evAs as)))
    (hst : starEach (e :: es) X.env = (false, eval e X.env) :: starEach es X.env := by rfl) (hpl : (backTo pos (starEach es X.env)).any (·.1) = false := by rfl)
    {pl : Sem Bool} (ht : CallsM X o m apos pos pl (e :: es) := by rfl) : PE X (.Call (.Attribute o m apos) (e :: es) [] pos) (TP K ct W (evCallCS n G c as)) := (pe_cmS he r cm (Fn.raw hb .nil) hr (fun σ => passAt tk σ) ha hst hpl ht).imp fun σ H Q h => by
  obtain ⟨fr, F, ρ, S, h⟩ := h
  refine ⟨rfl, ?_⟩
  refine Tat.bnd h S fun F1 H1 ρ1 vs ar s1 S1 r1 h => ?_
  show spP K ct.ad n G (V.ref (ct.ad c) :: vs ++ []) H1 Q _
  rw [List.append_nil]
  exact Tat.call h S1 (RAs.cons (show RA1 K ct.ad F1 σ (.ref (ct.ad c)) (.d (.cl c)) from Rp.cl c) r1) fun _ _ _ z => z
end
/-! ### xs[e], xs a cell that e leaves as it is, though it may change others -/
def evIxL (j : Nat) (e : Ev) : Ev := bnd (isL j) fun _ => bnd (dat e) fun d => fun ρ => match d, ρ[j]? with
  | .int i, some (.cel _ (.lst xs)) => (match atI xs i with | some z => some (.ok (.d z), ρ) | none => none)
  | _, _ => none
theorem pp_ixL {X : Cx} {x : Str} {b : Expr} {fb : Ev} {p pos : Pos} (j : Nat) (eK : X.K = K) (ha : PE X (.Name x p) (tVar j)) (hb : PE X b (TP K ct W fb)) (hs : PlainIx b) : PE X (.Subscript (.Name x p) b pos) (TP K ct W (evIxL j fb)) := (pe_ix (ix_seqK eK) ha hb hs).imp fun σ H Q h => by
  obtain ⟨fr, F, ρ, S, h⟩ := h
  obtain ⟨a, vs, h1, h2, h⟩ := Tat.isL h S
  refine ⟨_, h1, ?_⟩
  show T K ct (RV K ct.ad) W fb σ H _
  refine Tat.dat h S fun F1 H1 ρ1 v d s1 S1 r1 h => ?_
  obtain ⟨r0, ρ', e, q⟩ := h
  dsimp only at e
  split at e
  · rename_i i k xs e2
    split at e
    · rename_i z ez
      cases e
      obtain ⟨o, g1, p', a1, a2, a3, a4, a5, vs', a6, a7⟩ := S1.slot j _ e2
      rw [h1] at g1
      subst a1
      cases g1
      cases r1
      obtain ⟨w, w1, w2⟩ := a7.atI ez
      exact .inl ⟨_, _, _, w, rfl, rfl, SqL.of a6, w1, q w F1 _ (Same.refl _) S1 w2⟩
    · cases e
  · cases e
end PL
end
section
namespace PL
open PySem PySem.Spec PyProof.Rows L2
/-! ### what a pure term gives: K behind its value, X behind its exception -/
abbrev XC := Cl → Option D → List Sl → Prop
def Y0 {α : Type} (m : M α) (ρ : List Sl) (K : α → List Sl → Prop) (X : XC) : Prop := match m ρ with
  | some (.ok a, ρ1) => K a ρ1
  | some (.er c pl, ρ1) => X c pl ρ1
  | none => False
abbrev NX : XC := fun _ _ _ => False
section
variable {α β : Type} {ρ : List Sl} {X X' : XC}
theorem Y0.mono {m : M α} {K K' : α → List Sl → Prop} (h : Y0 m ρ K X) (k : ∀ a ρ1, K a ρ1 → K' a ρ1) (x : ∀ c pl ρ1, X c pl ρ1 → X' c pl ρ1) : Y0 m ρ K' X' := by
  unfold Y0 at h ⊢
  split
  · rename_i e; rw [e] at h; exact k _ _ h
  · rename_i e; rw [e] at h; exact x _ _ _ h
  · rename_i e; rw [e] at h; exact h
theorem Y0.mk {m : M α} {K : α → List Sl → Prop} (h : Y0 m ρ K NX) : ∃ a ρ1, m ρ = some (.ok a, ρ1) ∧ K a ρ1 := by
  unfold Y0 at h
  split at h
  · exact ⟨_, _, ‹_›, h⟩
  · exact h.elim
  · exact h.elim
theorem Y0.of {m : M α} {K : α → List Sl → Prop} {a : α} {ρ1 : List Sl} (e : m ρ = some (.ok a, ρ1)) (h : K a ρ1) : Y0 m ρ K X := by unfold Y0; rw [e]; exact h
variable {K : α → List Sl → Prop}
theorem Y0_pur {a : α} : Y0 (pur a) ρ K X = K a ρ := id rfl
theorem Y0_fai : Y0 (fai : M α) ρ K X = False := id rfl
theorem Y0_bnd {m : M β} {k : β → M α} : Y0 (bnd m k) ρ K X = Y0 m ρ (fun a ρ1 => Y0 (k a) ρ1 K X) X := by
  unfold Y0 bnd
  cases m ρ with
  | none => rfl
  | some x => obtain ⟨r, ρ1⟩ := x; cases r <;> rfl
theorem Y0_opt {o : Option α} : Y0 (opt o) ρ K X = ∃ a, o = some a ∧ K a ρ := by
  cases o with
  | none => exact propext ⟨fun h => h.elim, fun ⟨_, e, _⟩ => by cases e⟩
  | some a => exact propext ⟨fun h => ⟨a, rfl, h⟩, fun ⟨_, e, h⟩ => by cases e; exact h⟩
theorem Y0_noEr {m : M α} : Y0 (noEr m) ρ K X = Y0 m ρ K NX := by
  unfold Y0 noEr
  cases m ρ with
  | none => rfl
  | some x => obtain ⟨r, ρ1⟩ := x; cases r <;> rfl
theorem Y0_if {c : Prop} [Decidable c] {a b : M α} : Y0 (if c then a else b) ρ K X = if c then Y0 a ρ K X else Y0 b ρ K X := by split <;> rfl
theorem ex_if {γ : Type} {c : Prop} [Decidable c] {a : γ} {P : γ → Prop} : (∃ z, (if c then some a else none) = some z ∧ P z) = (c ∧ P a) := by
  by_cases h : c
  · rw [if_pos h]; exact propext ⟨fun ⟨z, e, p⟩ => by cases e; exact ⟨h, p⟩, fun ⟨_, p⟩ => ⟨a, rfl, p⟩⟩
  · rw [if_neg h]; exact propext ⟨fun ⟨z, e, _⟩ => (by cases e), fun z => (h z.1).elim⟩
theorem ex_so {γ : Type} {a : γ} {P : γ → Prop} : (∃ z, some a = some z ∧ P z) = P a := propext ⟨fun ⟨z, e, p⟩ => by cases e; exact p, fun p => ⟨a, rfl, p⟩⟩
end
section
variable {ρ : List Sl} {X : XC} {K : Rv → List Sl → Prop} {KD : D → List Sl → Prop} {KB : Bool → List Sl → Prop} {KF : Fl → List Sl → Prop} {m a b c : Ev} {s t : M Fl} {u v : M Bool} {i j n : Nat}
theorem Y0_vD {d : D} : Y0 (vD d) ρ K X = K (.d d) ρ := id rfl
theorem Y0_evV : Y0 (evV i) ρ K X = match ρ[i]? with | some (.dat d) => K (.d d) ρ | _ => False := by
  unfold Y0 evV
  cases ρ[i]? with
  | none => rfl
  | some s => cases s <;> rfl
theorem Y0_evF : Y0 (evF i) ρ K X = match ρ[i]? with | some (.dat d) => K (.d d) ρ | some (.cel .own c) => (match c.froz with | some d => K (.d d) (ρ.set i (.dat d)) | none => False) | _ => False := by
  unfold Y0 evF
  cases ρ[i]? with
  | none => rfl
  | some s =>
    cases s with
    | cel k c => cases k with
      | par => rfl
      | own => dsimp only; cases c.froz <;> rfl
    | _ => rfl
theorem Y0_evM : Y0 (evM i) ρ K X = match ρ[i]? with | some (.dat d) => K (.d d) ρ | some (.cel .own c) => K (.c c) (ρ.set i .un) | _ => False := by
  unfold Y0 evM
  cases ρ[i]? with
  | none => rfl
  | some s =>
    cases s with
    | cel k c => cases k <;> rfl
    | _ => rfl
theorem Y0_dat : Y0 (dat m) ρ KD X = Y0 m ρ (fun r ρ1 => match r with | .d d => KD d ρ1 | .c c => ∃ d, c.froz = some d ∧ KD d ρ1) X := by
  unfold dat
  rw [Y0_bnd]
  congr 1
  funext r ρ1
  cases r with
  | d d => rfl
  | c c => exact Y0_opt
theorem Y0_tst : Y0 (tst m) ρ KB X = Y0 (dat m) ρ (fun d ρ1 => match d with | .bl b => KB b ρ1 | _ => False) X := by
  unfold tst
  rw [Y0_bnd]
  congr 1
  funext d ρ1
  cases d <;> rfl
theorem Y0_ev2 {g : D → D → Option D} : Y0 (ev2 g a b) ρ K X = Y0 (dat a) ρ (fun x ρ1 => Y0 (dat b) ρ1 (fun y ρ2 => ∃ z, g x y = some z ∧ K (.d z) ρ2) X) X := by
  unfold ev2
  rw [Y0_bnd]
  congr 1; funext x ρ1
  rw [Y0_bnd]
  congr 1; funext y ρ2
  rw [Y0_opt]
  exact propext ⟨fun ⟨r, e, k⟩ => by obtain ⟨z, e1, e2⟩ := map_some e; subst e2; exact ⟨z, e1, k⟩, fun ⟨z, e, k⟩ => ⟨_, by rw [e]; rfl, k⟩⟩
theorem Y0_ev2c {g : D → D → Option CC} : Y0 (ev2c g a b) ρ K X = Y0 (dat a) ρ (fun x ρ1 => Y0 (dat b) ρ1 (fun y ρ2 => ∃ z, g x y = some z ∧ K (.c z) ρ2) X) X := by
  unfold ev2c
  rw [Y0_bnd]
  congr 1; funext x ρ1
  rw [Y0_bnd]
  congr 1; funext y ρ2
  rw [Y0_opt]
  exact propext ⟨fun ⟨r, e, k⟩ => by obtain ⟨z, e1, e2⟩ := map_some e; subst e2; exact ⟨z, e1, k⟩, fun ⟨z, e, k⟩ => ⟨_, by rw [e]; rfl, k⟩⟩
theorem Y0_ev1 {g : D → Option D} : Y0 (ev1 g a) ρ K X = Y0 (dat a) ρ (fun x ρ1 => ∃ z, g x = some z ∧ K (.d z) ρ1) X := by
  unfold ev1
  rw [Y0_bnd]
  congr 1; funext x ρ1
  rw [Y0_opt]
  exact propext ⟨fun ⟨r, e, k⟩ => by obtain ⟨z, e1, e2⟩ := map_some e; subst e2; exact ⟨z, e1, k⟩, fun ⟨z, e, k⟩ => ⟨_, by rw [e]; rfl, k⟩⟩
theorem Y0_seq : Y0 (evSeq s t) ρ KF X = Y0 s ρ (fun f ρ1 => match f with | .nx => Y0 t ρ1 KF X | f => KF f ρ1) X := by
  unfold Y0 evSeq
  cases s ρ with
  | none => rfl
  | some x => obtain ⟨r, ρ1⟩ := x; cases r with
    | ok f => cases f <;> rfl
    | er c pl => rfl
theorem Y0_evIf : Y0 (evIf u s t) ρ KF X = Y0 u ρ (fun c ρ1 => if c = true then Y0 s ρ1 KF X else Y0 t ρ1 KF X) X := by
  unfold evIf
  rw [Y0_bnd]
  congr 1; funext c ρ1
  exact Y0_if
theorem Y0_tNo : Y0 (tNo u) ρ KB X = Y0 u ρ (fun c ρ1 => KB (!c) ρ1) X := by unfold tNo; rw [Y0_bnd]; rfl
theorem Y0_tAn : Y0 (tAn u v) ρ KB X = Y0 u ρ (fun c ρ1 => if c = true then Y0 v ρ1 KB X else KB false ρ1) X := by
  unfold tAn; rw [Y0_bnd]; congr 1; funext c ρ1; cases c <;> rfl
theorem Y0_tOo : Y0 (tOo u v) ρ KB X = Y0 u ρ (fun c ρ1 => if c = true then KB true ρ1 else Y0 v ρ1 KB X) X := by
  unfold tOo; rw [Y0_bnd]; congr 1; funext c ρ1; cases c <;> rfl
theorem Y0_vNo : Y0 (vNo m) ρ K X = Y0 (tst m) ρ (fun c ρ1 => K (.d (.bl (!c))) ρ1) X := by unfold vNo; rw [Y0_bnd]; rfl
theorem Y0_vAn : Y0 (vAn a b) ρ K X = Y0 (tst a) ρ (fun c ρ1 => if c = true then Y0 (dat b) ρ1 (fun d ρ2 => K (.d d) ρ2) X else K (.d (.bl false)) ρ1) X := by
  unfold vAn; rw [Y0_bnd]; congr 1; funext c ρ1; cases c
  · rfl
  · simp only [if_true]; rw [Y0_bnd]; rfl
theorem Y0_vOo : Y0 (vOo a b) ρ K X = Y0 (tst a) ρ (fun c ρ1 => if c = true then K (.d (.bl true)) ρ1 else Y0 (dat b) ρ1 (fun d ρ2 => K (.d d) ρ2) X) X := by
  unfold vOo; rw [Y0_bnd]; congr 1; funext c ρ1; cases c
  · simp only [Bool.false_eq_true, if_false]; rw [Y0_bnd]; rfl
  · rfl
theorem Y0_vIf : Y0 (vIf u a b) ρ K X = Y0 u ρ (fun c ρ1 => if c = true then Y0 a ρ1 K X else Y0 b ρ1 K X) X := by
  unfold vIf; rw [Y0_bnd]; congr 1; funext c ρ1; exact Y0_if
theorem ex_bl {o : Option D} {P : D → Prop} {Q : Bool → Prop} (h : ∀ b, P (.bl b) = Q b) (h2 : ∀ z, (∀ b, z ≠ .bl b) → P z = False) : (∃ z, o = some z ∧ P z) = ∃ b, o = some (.bl b) ∧ Q b :=
  propext ⟨fun ⟨z, e, p⟩ => by
    cases z with
    | bl b => exact ⟨b, e, by rw [← h]; exact p⟩
    | _ => rw [h2 _ (fun b q => by cases q)] at p; exact p.elim, fun ⟨b, e, p⟩ => ⟨_, e, by rw [h]; exact p⟩⟩
theorem Y0_ch2 {g g' : D → D → Option D} : Y0 (ch2 g g' a b c) ρ K X = Y0 (dat a) ρ (fun x ρ1 => Y0 (dat b) ρ1 (fun y ρ2 => ∃ z, g x y = some (.bl z) ∧ if z = true then Y0 (dat c) ρ2 (fun w ρ3 => ∃ z2, g' y w = some z2 ∧ K (.d z2) ρ3) X else K (.d (.bl false)) ρ2) X) X := by
  unfold ch2
  rw [Y0_bnd]; congr 1; funext x ρ1
  rw [Y0_bnd]; congr 1; funext y ρ2
  rw [Y0_bnd, Y0_opt]
  refine ex_bl (fun k => ?_) (fun z h => ?_)
  · cases k
    · rfl
    · dsimp only
      rw [if_pos rfl, Y0_bnd]; congr 1; funext w ρ3
      rw [Y0_opt]
      exact propext ⟨fun ⟨r, e, k⟩ => by obtain ⟨z, e1, e2⟩ := map_some e; subst e2; exact ⟨z, e1, k⟩, fun ⟨z, e, k⟩ => ⟨_, by rw [e]; rfl, k⟩⟩
  · cases z <;> first | rfl | exact absurd rfl (h _)
theorem Y0_ch3 {g g' g'' : D → D → Option D} {d : Ev} : Y0 (ch3 g g' g'' a b c d) ρ KB X = Y0 (dat a) ρ (fun x ρ1 => Y0 (dat b) ρ1 (fun y ρ2 => ∃ z, g x y = some (.bl z) ∧ if z = true then Y0 (dat c) ρ2 (fun w ρ3 => ∃ z2, g' y w = some (.bl z2) ∧ if z2 = true then Y0 (dat d) ρ3 (fun q ρ4 => ∃ z3, g'' w q = some (.bl z3) ∧ KB z3 ρ4) X else KB false ρ3) X else KB false ρ2) X) X := by
  unfold ch3
  rw [Y0_bnd]; congr 1; funext x ρ1
  rw [Y0_bnd]; congr 1; funext y ρ2
  rw [Y0_bnd, Y0_opt]
  refine ex_bl (fun k => ?_) (fun z h => ?_)
  · cases k
    · rfl
    · dsimp only
      rw [if_pos rfl, Y0_bnd]; congr 1; funext w ρ3
      rw [Y0_bnd, Y0_opt]
      refine ex_bl (fun k => ?_) (fun z h => ?_)
      · cases k
        · rfl
        · dsimp only
          rw [if_pos rfl, Y0_bnd]; congr 1; funext w ρ3
          rw [Y0_bnd, Y0_opt]
          refine ex_bl (fun k => rfl) (fun z h => ?_)
          cases z <;> first | rfl | exact absurd rfl (h _)
      · cases z <;> first | rfl | exact absurd rfl (h _)
  · cases z <;> first | rfl | exact absurd rfl (h _)
/-- a slot that may be set -/
def canSet : Sl → Bool | .cel .par _ => false | _ => true
theorem Y0_setD {d : D} : Y0 (setD i d) ρ KF X = ∃ s, ρ[i]? = some s ∧ canSet s = true ∧ KF .nx (ρ.set i (.dat d)) := by
  unfold Y0 setD
  cases ρ[i]? with
  | none => exact propext ⟨fun h => h.elim, fun ⟨_, e, _⟩ => by cases e⟩
  | some s =>
    have go : ∀ {P : Prop}, canSet s = true → (P = ∃ s', some s = some s' ∧ canSet s' = true ∧ P) := fun {P} z => propext ⟨fun h => ⟨s, rfl, z, h⟩, fun ⟨_, _, _, h⟩ => h⟩
    cases s with
    | cel k c => cases k with
      | own => exact go rfl
      | par => exact propext ⟨fun h => h.elim, fun ⟨_, e, z, _⟩ => by cases e; cases z⟩
    | _ => exact go rfl
theorem Y0_setC {d : CC} : Y0 (PL.setC i d) ρ KF X = ∃ s, ρ[i]? = some s ∧ canSet s = true ∧ KF .nx (ρ.set i (.cel .own d)) := by
  unfold Y0 PL.setC
  cases ρ[i]? with
  | none => exact propext ⟨fun h => h.elim, fun ⟨_, e, _⟩ => by cases e⟩
  | some s =>
    have go : ∀ {P : Prop}, canSet s = true → (P = ∃ s', some s = some s' ∧ canSet s' = true ∧ P) := fun {P} z => propext ⟨fun h => ⟨s, rfl, z, h⟩, fun ⟨_, _, _, h⟩ => h⟩
    cases s with
    | cel k c => cases k with
      | own => exact go rfl
      | par => exact propext ⟨fun h => h.elim, fun ⟨_, e, z, _⟩ => by cases e; cases z⟩
    | _ => exact go rfl
theorem Y0_asg : Y0 (evAsg i m) ρ KF X = Y0 (dat m) ρ (fun d ρ1 => Y0 (setD i d) ρ1 KF X) X := by unfold evAsg; rw [Y0_bnd]
theorem Y0_asgC : Y0 (evAsgC i m) ρ KF X = Y0 m ρ (fun r ρ1 => match r with | .c c => Y0 (PL.setC i c) ρ1 KF X | .d _ => False) X := by
  unfold evAsgC; rw [Y0_bnd]; congr 1; funext r ρ1; cases r <;> rfl
theorem Y0_ret : Y0 (evRet m) ρ KF X = Y0 m ρ (fun r ρ1 => KF (.rt r) ρ1) X := by unfold evRet; rw [Y0_bnd]; rfl
theorem Y0_ex : Y0 (evEx m) ρ KF X = Y0 m ρ (fun _ ρ1 => KF .nx ρ1) X := by unfold evEx; rw [Y0_bnd]; rfl
theorem Y0_nx : Y0 evNx ρ KF X = KF .nx ρ := id rfl
theorem Y0_look {α : Type} {ok : α → Bool} {m : M α} {K : α → List Sl → Prop} : Y0 (look j ok m) ρ K X = match ρ[j]? with | some (.cel _ (.lst xs)) => Y0 m (lkS j xs 0 ρ) (fun r _ => ok r = true ∧ K r ρ) NX | _ => False := by
  unfold Y0 look
  cases ρ[j]? with
  | none => rfl
  | some s => cases s with
    | cel k c => cases c with
      | lst xs =>
        dsimp only
        cases m (lkS j xs 0 ρ) with
        | none => rfl
        | some x => obtain ⟨r, ρ1⟩ := x; cases r with
          | ok a => dsimp only; cases ok a <;> simp
          | er c pl => rfl
      | _ => rfl
    | _ => rfl
variable {KS : List D → List Sl → Prop} {KA : List Ar → List Sl → Prop} {es : List DE} {as : List AE}
theorem Y0_ds0 : Y0 (evDs []) ρ KS X = KS [] ρ := id rfl
theorem Y0_dsE : Y0 (evDs (.e m :: es)) ρ KS X = Y0 (dat m) ρ (fun d ρ1 => Y0 (evDs es) ρ1 (fun ds ρ2 => KS (d :: ds) ρ2) X) X := by
  show Y0 (bnd _ _) ρ KS X = _
  rw [Y0_bnd]; congr 1; funext d ρ1; rw [Y0_bnd]; rfl
theorem Y0_dsS : Y0 (evDs (.s m :: es)) ρ KS X = Y0 (dat m) ρ (fun d ρ1 => ∃ xs, d.items = some xs ∧ Y0 (evDs es) ρ1 (fun ds ρ2 => KS (xs ++ ds) ρ2) X) X := by
  show Y0 (bnd _ _) ρ KS X = _
  rw [Y0_bnd]; congr 1; funext d ρ1; rw [Y0_bnd, Y0_opt]; congr 1; funext xs; rw [Y0_bnd]; rfl
theorem Y0_B {g : List D → Option D} : Y0 (evB g es) ρ K X = Y0 (evDs es) ρ (fun ds ρ1 => ∃ z, g ds = some z ∧ K (.d z) ρ1) X := by
  unfold evB
  rw [Y0_bnd]; congr 1; funext ds ρ1; rw [Y0_opt]
  exact propext ⟨fun ⟨r, e, k⟩ => by obtain ⟨z, e1, e2⟩ := map_some e; subst e2; exact ⟨z, e1, k⟩, fun ⟨z, e, k⟩ => ⟨_, by rw [e]; rfl, k⟩⟩
theorem Y0_Bc {g : List D → Option CC} : Y0 (evBc g es) ρ K X = Y0 (evDs es) ρ (fun ds ρ1 => ∃ z, g ds = some z ∧ K (.c z) ρ1) X := by
  unfold evBc
  rw [Y0_bnd]; congr 1; funext ds ρ1; rw [Y0_opt]
  exact propext ⟨fun ⟨r, e, k⟩ => by obtain ⟨z, e1, e2⟩ := map_some e; subst e2; exact ⟨z, e1, k⟩, fun ⟨z, e, k⟩ => ⟨_, by rw [e]; rfl, k⟩⟩
theorem Y0_tup : Y0 (evTup es) ρ K X = Y0 (evDs es) ρ (fun ds ρ1 => ds.length ≤ 16777216 ∧ K (.d (.tup ds)) ρ1) X := by
  unfold evTup
  rw [Y0_bnd]; congr 1; funext ds ρ1
  rw [Y0_if]
  by_cases h : ds.length ≤ 16777216 <;> simp [h, Y0_vD, Y0_fai]
theorem Y0_lst : Y0 (evLst es) ρ K X = Y0 (evDs es) ρ (fun ds ρ1 => ds.length ≤ 16777216 ∧ K (.c (.lst ds)) ρ1) X := by
  unfold evLst
  rw [Y0_bnd]; congr 1; funext ds ρ1
  rw [Y0_if]
  by_cases h : ds.length ≤ 16777216 <;> simp [h, Y0_pur, Y0_fai]
theorem Y0_isL {P : Rv → List Sl → Prop} : Y0 (isL j) ρ P X = match ρ[j]? with | some (.cel _ (.lst _)) => P (.d .non) ρ | _ => False := by
  unfold Y0 isL
  cases ρ[j]? with
  | none => rfl
  | some s => cases s with
    | cel k c => cases c <;> rfl
    | _ => rfl
theorem Y0_modL {f : List D → Option (D × List D)} : Y0 (modL j f) ρ K X = match ρ[j]? with | some (.cel k (.lst xs)) => ∃ p, f xs = some p ∧ K (.d p.1) (ρ.set j (.cel k (.lst p.2))) | _ => False := by
  unfold Y0 modL
  cases ρ[j]? with
  | none => rfl
  | some s => cases s with
    | cel k c => cases c with
      | lst xs =>
        dsimp only
        cases f xs with
        | none => exact propext ⟨fun h => h.elim, fun ⟨_, e, _⟩ => by cases e⟩
        | some p => exact propext ⟨fun h => ⟨p, rfl, h⟩, fun ⟨_, e, h⟩ => by cases e; exact h⟩
      | _ => rfl
    | _ => rfl
theorem Y0_bmL {f : List D → List D → Option (D × List D)} : Y0 (evBmL j f es) ρ K X = match ρ[j]? with
    | some (.cel _ (.lst _)) => Y0 (evDs es) ρ (fun ds ρ1 => match ρ1[j]? with | some (.cel k (.lst xs)) => ∃ p, f xs ds = some p ∧ K (.d p.1) (ρ1.set j (.cel k (.lst p.2))) | _ => False) X
    | _ => False := by
  unfold evBmL
  rw [Y0_bnd, Y0_isL]
  simp only [Y0_bnd, Y0_modL]
theorem Y0_ixL : Y0 (evIxL j m) ρ K X = match ρ[j]? with
    | some (.cel _ (.lst _)) => Y0 (dat m) ρ (fun d ρ1 => match ρ1[j]? with | some (.cel _ (.lst xs)) => (match d with | .int i => ∃ z, atI xs i = some z ∧ K (.d z) ρ1 | _ => False) | _ => False) X
    | _ => False := by
  unfold evIxL
  rw [Y0_bnd, Y0_isL]
  cases ρ[j]? with
  | none => rfl
  | some s => cases s with
    | cel k c => cases c with
      | lst xs =>
        dsimp only
        rw [Y0_bnd]
        congr 1
        funext d ρ1
        unfold Y0
        dsimp only
        generalize ρ1[j]? = o
        cases o with
        | none => cases d <;> rfl
        | some s => cases s with
          | cel k c => cases c with
            | lst ys =>
              cases d <;> try rfl
              rename_i i
              dsimp only
              cases atI ys i with
              | none => exact propext ⟨fun h => h.elim, fun ⟨_, e, _⟩ => by cases e⟩
              | some z => exact propext ⟨fun h => ⟨z, rfl, h⟩, fun ⟨_, e, h⟩ => by cases e; exact h⟩
            | _ => cases d <;> rfl
          | _ => cases d <;> rfl
      | _ => rfl
    | _ => rfl
theorem Y0_setI : Y0 (evSetI j a b) ρ KF X = Y0 (dat b) ρ (fun d ρ1 => match ρ1[j]? with
    | some (.cel _ (.lst _)) => Y0 (dat a) ρ1 (fun i ρ2 => match i with
      | .int i => (match ρ2[j]? with | some (.cel k (.lst xs)) => ∃ n, ixN xs.length i = some n ∧ KF .nx (ρ2.set j (.cel k (.lst (xs.set n d)))) | _ => False)
      | _ => False) X
    | _ => False) X := by
  unfold evSetI
  rw [Y0_bnd]; congr 1; funext d ρ1
  rw [Y0_bnd, Y0_isL]
  cases ρ1[j]? with
  | none => rfl
  | some s => cases s with
    | cel k c => cases c with
      | lst xs =>
        dsimp only
        rw [Y0_bnd]
        congr 1
        funext i ρ2
        cases i with
        | int i =>
          dsimp only
          rw [Y0_bnd, Y0_modL]
          cases ρ2[j]? with
          | none => rfl
          | some s => cases s with
            | cel k c => cases c with
              | lst xs =>
                dsimp only
                cases ixN xs.length i with
                | none => exact propext ⟨fun ⟨_, e, _⟩ => (by cases e), fun ⟨_, e, _⟩ => (by cases e)⟩
                | some n => exact propext ⟨fun ⟨_, e, h⟩ => ⟨n, rfl, by cases e; exact h⟩, fun ⟨_, e, h⟩ => ⟨_, rfl, by cases e; exact h⟩⟩
              | _ => rfl
            | _ => rfl
        | _ => rfl
      | _ => rfl
    | _ => rfl
theorem Y0_as0 : Y0 (evAs []) ρ KA X = KA [] ρ := id rfl
theorem Y0_asE : Y0 (evAs (.e m :: as)) ρ KA X = Y0 (dat m) ρ (fun d ρ1 => Y0 (evAs as) ρ1 (fun ar ρ2 => KA (.d d :: ar) ρ2) X) X := by
  show Y0 (bnd _ _) ρ KA X = _
  rw [Y0_bnd]; congr 1; funext d ρ1; rw [Y0_bnd]; rfl
theorem Y0_asC : Y0 (evAs (.c j :: as)) ρ KA X = match ρ[j]? with | some (.cel _ _) => Y0 (evAs as) ρ (fun ar ρ2 => KA (.c j :: ar) ρ2) X | _ => False := by
  conv => lhs; unfold Y0 evAs
  cases h : ρ[j]? with
  | none => rfl
  | some s => cases s with
    | cel k c =>
      dsimp only
      have := Y0_bnd (ρ := ρ) (m := evAs as) (k := fun as => pur (Ar.c j :: as)) (K := KA) (X := X)
      unfold Y0 at this ⊢
      exact this
    | _ => rfl
theorem Y0_callG {G : Fn} {ar : List Ar} : Y0 (callG n G ar) ρ K X = ∃ ss, argSl ρ ar = some ss ∧ (ar.length = n ∧ (celsOf ar).Nodup) ∧ Y0 G ss (fun r ss' => K r (back ρ ar ss')) (fun c pl ss' => X c pl (back ρ ar ss')) := by
  unfold Y0 callG
  cases argSl ρ ar with
  | none => exact propext ⟨fun h => h.elim, fun ⟨_, e, _⟩ => by cases e⟩
  | some ss =>
    dsimp only
    by_cases h : ar.length = n ∧ (celsOf ar).Nodup
    · rw [if_pos h]
      refine propext ⟨fun z => ⟨ss, rfl, h, ?_⟩, fun ⟨_, e, _, z⟩ => ?_⟩
      · cases e : G ss with
        | none => rw [e] at z; exact z
        | some x => obtain ⟨r, s2⟩ := x; rw [e] at z; cases r <;> exact z
      · cases e
        cases e : G ss with
        | none => rw [e] at z; exact z
        | some x => obtain ⟨r, s2⟩ := x; rw [e] at z; cases r <;> exact z
    · rw [if_neg h]
      exact propext ⟨fun z => z.elim, fun ⟨_, _, z, _⟩ => h z⟩
theorem Y0_call {G : Fn} {ds : List D} : Y0 (evCall n G as ds) ρ K X = Y0 (evAs as) ρ (fun ar ρ1 => Y0 (callG n G (ar ++ ds.map .d)) ρ1 K X) X := by unfold evCall; rw [Y0_bnd]
theorem Y0_call0 {G : Fn} {ds : List D} : Y0 (evCall0 n G as ds) ρ K X = Y0 (evAs as) ρ (fun ar ρ1 => Y0 (callG n G (ar ++ ds.map .d)) ρ1 K NX) X := by
  unfold evCall0; rw [Y0_bnd]; congr 1; funext ar ρ1; rw [Y0_noEr]
theorem Y0_callN {G : Fn} {c : CC} {ar : List Ar} : Y0 (callN n G c ar) ρ K X = Y0 (callG n G (.c ρ.length :: ar)) (ρ ++ [.cel .own c]) (fun r ρ1 => K r (ρ1.take ρ.length)) (fun c pl ρ1 => X c pl (ρ1.take ρ.length)) := by
  unfold Y0 callN
  cases callG n G (.c ρ.length :: ar) (ρ ++ [.cel .own c]) with
  | none => rfl
  | some x => obtain ⟨r, ρ1⟩ := x; cases r <;> rfl
theorem Y0_CallN {G : Fn} {ds : List D} : Y0 (evCallN n G m as ds) ρ K X = Y0 m ρ (fun r ρ1 => match r with | .c c => Y0 (evAs as) ρ1 (fun ar ρ2 => Y0 (callN n G c (ar ++ ds.map .d)) ρ2 K X) X | .d _ => False) X := by
  unfold evCallN; rw [Y0_bnd]; congr 1; funext r ρ1
  cases r with
  | d d => rfl
  | c c => exact Y0_bnd
theorem Y0_CallN0 {G : Fn} {ds : List D} : Y0 (evCallN0 n G m as ds) ρ K X = Y0 m ρ (fun r ρ1 => match r with | .c c => Y0 (evAs as) ρ1 (fun ar ρ2 => Y0 (callN n G c (ar ++ ds.map .d)) ρ2 K NX) X | .d _ => False) X := by
  unfold evCallN0; rw [Y0_bnd]; congr 1; funext r ρ1
  cases r with
  | d d => rfl
  | c c =>
    dsimp only
    rw [Y0_bnd]; congr 1; funext ar ρ2; rw [Y0_noEr]
theorem Y0_CallC {G : Fn} {c : Cl} : Y0 (evCallC n G c as) ρ K X = Y0 (evAs as) ρ (fun ar ρ1 => Y0 (callG n G (.d (.cl c) :: ar)) ρ1 K NX) X := by
  unfold evCallC; rw [Y0_bnd]; congr 1; funext ar ρ1; rw [Y0_noEr]
theorem Y0_CallCS {G : Fn} {c : Cl} : Y0 (evCallCS n G c as) ρ K X = Y0 (evAs as) ρ (fun ar ρ1 => Y0 (callG n G (.d (.cl c) :: ar)) ρ1 K X) X := by
  unfold evCallCS; rw [Y0_bnd]
theorem Y0_mkL {G : Fn} {c : Cl} : Y0 (evMkL i n G c as) ρ K X = match ρ[i]? with | some (.dat (.cl c')) => c' = c ∧ Y0 (evMk n G c as []) ρ K X | _ => False := by
  conv => lhs; unfold Y0 evMkL
  cases ρ[i]? with
  | none => rfl
  | some s =>
    cases s with
    | dat d =>
      cases d with
      | cl c' =>
        dsimp only
        by_cases h : c' = c
        · rw [if_pos h]; exact propext ⟨fun q => ⟨h, q⟩, fun q => q.2⟩
        · rw [if_neg h]; exact propext ⟨fun q => q.elim, fun q => h q.1⟩
      | _ => rfl
    | _ => rfl
theorem Y0_BestN {f : Int → Int → Int} {es : List DE} : Y0 (evBestN f es) ρ K X = Y0 (evDs es) ρ (fun ds ρ1 => ∃ z, gBestN f ds = some z ∧ K (.d z) ρ1) X := by
  unfold evBestN
  rw [Y0_bnd]; congr 1; funext ds ρ1; rw [Y0_opt]
  exact propext ⟨fun ⟨r, e, k⟩ => by obtain ⟨z, e1, e2⟩ := map_some e; subst e2; exact ⟨z, e1, k⟩, fun ⟨z, e, k⟩ => ⟨_, by rw [e]; rfl, k⟩⟩
theorem Y0_own2 {G : Fn} {c : Cl} : Y0 (evOwn2 n G c a b) ρ K X = Y0 (dat a) ρ (fun d ρ1 => match d with
    | .obj c' xs => c' = c ∧ Y0 (dat b) ρ1 (fun d2 ρ2 => match d2 with | .obj c2 ys => c2 = c ∧ Y0 (callG n G [.d (.obj c xs), .d (.obj c ys)]) ρ2 K NX | _ => False) X
    | _ => False) X := by
  unfold evOwn2
  rw [Y0_bnd]; congr 1; funext d ρ1
  cases d <;> try rfl
  rename_i c' xs
  dsimp only
  rw [Y0_if]
  by_cases h : c' = c
  · rw [if_pos h, Y0_bnd]
    simp only [h, true_and]
    congr 1; funext d2 ρ2
    cases d2 <;> try rfl
    rename_i c2 ys
    dsimp only
    rw [Y0_if]
    by_cases h2 : c2 = c
    · rw [if_pos h2, Y0_noEr]; simp only [h2, true_and]
    · rw [if_neg h2, Y0_fai]; simp only [h2, false_and]
  · rw [if_neg h, Y0_fai]; simp only [h, false_and]
theorem Y0_st {k : StK} : Y0 (evSt k m) ρ K X = Y0 (dat m) ρ (fun d ρ1 => match d with | .tup xs => K (.d (.tup (k.ap xs))) ρ1 | _ => False) X := by
  unfold evSt; rw [Y0_bnd]; congr 1; funext d ρ1; cases d <;> rfl
theorem Y0_ownIn {G : Fn} {c : Cl} : Y0 (evOwnIn n G c a b) ρ K X = Y0 (dat a) ρ (fun x ρ1 => Y0 (dat b) ρ1 (fun d ρ2 => match d with
    | .obj c' xs => c' = c ∧ Y0 (tst (noEr (callG n G [.d (.obj c xs), .d x]))) ρ2 (fun z ρ3 => K (.d (.bl z)) ρ3) X
    | _ => False) X) X := by
  unfold evOwnIn
  rw [Y0_bnd]; congr 1; funext x ρ1
  rw [Y0_bnd]; congr 1; funext d ρ2
  cases d <;> try rfl
  rename_i c' xs
  dsimp only
  rw [Y0_if]
  by_cases h : c' = c
  · rw [if_pos h, Y0_bnd]; simp only [h, true_and]; rfl
  · rw [if_neg h, Y0_fai]; simp only [h, false_and]
theorem Y0_ownNin {G : Fn} {c : Cl} : Y0 (evOwnNin n G c a b) ρ K X = Y0 (dat a) ρ (fun x ρ1 => Y0 (dat b) ρ1 (fun d ρ2 => match d with
    | .obj c' xs => c' = c ∧ Y0 (tst (noEr (callG n G [.d (.obj c xs), .d x]))) ρ2 (fun z ρ3 => K (.d (.bl (!z))) ρ3) X
    | _ => False) X) X := by
  unfold evOwnNin
  rw [Y0_bnd]; congr 1; funext x ρ1
  rw [Y0_bnd]; congr 1; funext d ρ2
  cases d <;> try rfl
  rename_i c' xs
  dsimp only
  rw [Y0_if]
  by_cases h : c' = c
  · rw [if_pos h, Y0_bnd]; simp only [h, true_and]; rfl
  · rw [if_neg h, Y0_fai]; simp only [h, false_and]
theorem datas_0 : datas [] = some [] := id rfl
theorem datas_d {d : D} {ar : List Ar} : datas (.d d :: ar) = (datas ar).map (d :: ·) := by
  show (match Ar.data (.d d), datas ar with | some d, some ds => some (d :: ds) | _, _ => none) = _
  cases datas ar <;> rfl
theorem Y0_callV {G : Fn} {ds : List D} : Y0 (callV n G ds) ρ K X = ((n ≤ ds.length ∧ ds.length ≤ 1000000) ∧ Y0 (callG (n + 1) G ((ds.take n).map .d ++ [.d (.tup (ds.drop n))])) ρ K X) := by
  unfold callV
  rw [Y0_if]
  by_cases h : n ≤ ds.length ∧ ds.length ≤ 1000000
  · rw [if_pos h]; simp only [h, true_and, and_self]
  · rw [if_neg h]; exact propext ⟨fun z => z.elim, fun z => h z.1⟩
theorem Y0_CallV {G : Fn} : Y0 (evCallV n G as) ρ K X = Y0 (evAs as) ρ (fun ar ρ1 => ∃ ds, datas ar = some ds ∧ Y0 (callV n G ds) ρ1 K X) X := by
  unfold evCallV
  rw [Y0_bnd]; congr 1; funext ar ρ1
  rw [Y0_bnd, Y0_opt]
theorem Y0_CallV0 {G : Fn} : Y0 (evCallV0 n G as) ρ K X = Y0 (evAs as) ρ (fun ar ρ1 => ∃ ds, datas ar = some ds ∧ Y0 (callV n G ds) ρ1 K NX) X := by
  unfold evCallV0
  rw [Y0_bnd]; congr 1; funext ar ρ1
  rw [Y0_bnd, Y0_opt]
  congr 1; funext ds; rw [Y0_noEr]
theorem Y0_CallVS {G : Fn} : Y0 (evCallVS n G m) ρ K X = Y0 (dat m) ρ (fun d ρ1 => ∃ ds, d.items = some ds ∧ Y0 (callV n G ds) ρ1 K X) X := by
  unfold evCallVS
  rw [Y0_bnd]; congr 1; funext d ρ1
  rw [Y0_bnd, Y0_opt]
theorem Y0_mkG {G : Fn} {c : Cl} {ar : List Ar} : Y0 (mkG n G c ar) ρ K X = Y0 (callG n G (.c ρ.length :: ar)) (ρ ++ [.cel .own (.obj c [])]) (fun r ρ1 => match r, ρ1[ρ.length]? with | .d .non, some (.cel .own c') => K (.c c') (ρ1.take ρ.length) | _, _ => False) (fun c pl ρ1 => X c pl (ρ1.take ρ.length)) := by
  unfold Y0 mkG
  dsimp only
  generalize callG n G (.c ρ.length :: ar) (ρ ++ [.cel .own (.obj c [])]) = z
  cases z with
  | none => rfl
  | some x =>
    obtain ⟨r, ρ1⟩ := x
    cases r with
    | er c pl => rfl
    | ok r =>
      cases r with
      | c c => cases ρ1[ρ.length]? <;> rfl
      | d d =>
        cases d with
        | non =>
          dsimp only
          cases ρ1[ρ.length]? with
          | none => rfl
          | some s => cases s with
            | cel k c => cases k <;> rfl
            | _ => rfl
        | _ => cases ρ1[ρ.length]? <;> rfl
theorem Y0_mk {G : Fn} {c : Cl} {ds : List D} : Y0 (evMk n G c as ds) ρ K X = Y0 (evAs as) ρ (fun ar ρ1 => Y0 (mkG n G c (ar ++ ds.map .d)) ρ1 K X) X := by unfold evMk; rw [Y0_bnd]
theorem Y0_mk0 {G : Fn} {c : Cl} {ds : List D} : Y0 (evMk0 n G c as ds) ρ K X = Y0 (evAs as) ρ (fun ar ρ1 => Y0 (mkG n G c (ar ++ ds.map .d)) ρ1 K NX) X := by
  unfold evMk0; rw [Y0_bnd]; congr 1; funext ar ρ1; rw [Y0_noEr]
theorem Y0_meth {G : Fn} {c : Cl} : Y0 (evMeth n G c m as) ρ K X = Y0 (dat m) ρ (fun d ρ1 => match d with | .obj c' xs => c' = c ∧ Y0 (evAs as) ρ1 (fun ar ρ2 => Y0 (callG n G (.d (.obj c' xs) :: ar)) ρ2 K NX) X | _ => False) X := by
  unfold evMeth; rw [Y0_bnd]; congr 1; funext d ρ1
  cases d <;> try rfl
  rename_i c' xs
  dsimp only
  rw [Y0_if]
  by_cases h : c' = c
  · rw [if_pos h, Y0_bnd]
    simp only [h, true_and, Y0_noEr]
  · rw [if_neg h, Y0_fai]; simp [h]
theorem Y0_methS {G : Fn} {c : Cl} : Y0 (evMethS n G c m as) ρ K X = Y0 (dat m) ρ (fun d ρ1 => match d with | .obj c' xs => c' = c ∧ Y0 (evAs as) ρ1 (fun ar ρ2 => Y0 (callG n G (.d (.obj c' xs) :: ar)) ρ2 K X) X | _ => False) X := by
  unfold evMethS; rw [Y0_bnd]; congr 1; funext d ρ1
  cases d <;> try rfl
  rename_i c' xs
  dsimp only
  rw [Y0_if]
  by_cases h : c' = c
  · rw [if_pos h, Y0_bnd]
    simp only [h, true_and]
  · rw [if_neg h, Y0_fai]; simp [h]
theorem Y0_runB {k : Nat} {ss : List Sl} : Y0 (runB k s) ss K X = Y0 s (ss ++ List.replicate k .un) (fun f ρ => match f with | .nx => K (.d .non) (outs ss ρ) | .rt r => K r (outs ss ρ) | _ => False) (fun c pl ρ => X c pl (outs ss ρ)) := by
  unfold Y0 runB
  dsimp only
  generalize s (ss ++ List.replicate k .un) = z
  cases z with
  | none => rfl
  | some x => obtain ⟨r, ρ1⟩ := x; cases r with
    | ok f => cases f <;> rfl
    | er c pl => rfl
theorem Y0_run0 {k : Nat} {ss : List Sl} : Y0 (run0 k s) ss K X = Y0 s (ss ++ List.replicate k .un) (fun f ρ => match f with | .nx => K (.d .non) (outs ss ρ) | .rt r => K r (outs ss ρ) | _ => False) NX := by
  unfold run0; rw [Y0_noEr, Y0_runB]
theorem Y0_raise {c : Cl} : Y0 (evRaise c) ρ KF X = X c none ρ := id rfl
theorem Y0_raiseP {c : Cl} : Y0 (evRaiseP c m) ρ KF X = Y0 (dat m) ρ (fun d ρ1 => fmtD d = true ∧ X c (some d) ρ1) X := by
  unfold evRaiseP
  rw [Y0_bnd]; congr 1; funext d ρ1
  cases e : fmtD d with
  | true =>
    rw [if_pos rfl]
    exact propext ⟨fun h => ⟨rfl, h⟩, fun h => h.2⟩
  | false =>
    rw [if_neg (by decide)]
    exact propext ⟨fun h => h.elim, fun h => by cases h.1⟩
theorem Y0_raise1 {c : Cl} : Y0 (evRaise1 c m) ρ KF X = Y0 m ρ (fun _ ρ1 => X c none ρ1) X := by unfold evRaise1; rw [Y0_bnd]; rfl
theorem Y0_for {it : M (List D)} {tg : Tg} : Y0 (evFor it tg s) ρ KF X = Y0 it ρ (fun xs ρ1 => Y0 (loop tg s xs) ρ1 KF X) X := by unfold evFor; rw [Y0_bnd]
theorem Y0_isi {tbl : List (TyN × Bool)} : Y0 (evIsi tbl m) ρ K X = Y0 (dat m) ρ (fun d ρ1 => ∃ b, (d.tyN.bind fun t => tbl.lookup t) = some b ∧ K (.d (.bl b)) ρ1) X := by
  unfold evIsi; rw [Y0_bnd]; congr 1; funext d ρ1; rw [Y0_opt]
  exact propext ⟨fun ⟨r, e, k⟩ => by obtain ⟨z, e1, e2⟩ := map_some e; subst e2; exact ⟨z, e1, k⟩, fun ⟨z, e, k⟩ => ⟨_, by rw [e]; rfl, k⟩⟩
theorem Y0_tTr : Y0 (tTr m) ρ KB X = Y0 (dat m) ρ (fun d ρ1 => ∃ b, d.truth = some b ∧ KB b ρ1) X := by
  unfold tTr; rw [Y0_bnd]; congr 1; funext d ρ1; rw [Y0_opt]
theorem Y0_fldS {c : Cl} {f : Str} : Y0 (evFldS c j f m) ρ KF X = Y0 (dat m) ρ (fun d ρ1 => match ρ1[j]? with | some (.cel k (.obj c' kvs)) => (c' = c ∧ kvs.length < 1000) ∧ KF .nx (ρ1.set j (.cel k (.obj c' (putD f d kvs)))) | _ => False) X := by
  unfold evFldS; rw [Y0_bnd]; congr 1; funext d ρ1
  unfold Y0
  dsimp only
  generalize ρ1[j]? = z
  cases z with
  | none => rfl
  | some s => cases s with
    | cel k cc => cases cc with
      | obj c' kvs =>
        dsimp only
        by_cases h : c' = c ∧ kvs.length < 1000
        · rw [if_pos h]; simp [h]
        · rw [if_neg h]; simp only [h, false_and]
      | _ => rfl
    | _ => rfl
/-- a statement, then the rest: what holds between them is said -/
theorem Y0_cut {J : List Sl → Prop} (h : Y0 s ρ (fun f ρ1 => f = .nx ∧ J ρ1) X) (k : ∀ ρ1, J ρ1 → Y0 t ρ1 KF X) : Y0 (evSeq s t) ρ KF X := by
  rw [Y0_seq]
  refine h.mono (fun f ρ1 q => ?_) (fun _ _ _ q => q)
  obtain ⟨e, q⟩ := q
  subst e
  exact k ρ1 q
/-- a loop with an invariant over what is still to come -/
theorem Y0_loop {tg : Tg} {I : List D → List Sl → Prop} : ∀ {xs : List D} {ρ : List Sl}, I xs ρ → (∀ x r ρ, I (x :: r) ρ → Y0 (asgT tg x) ρ (fun f ρ1 => f = .nx ∧ Y0 s ρ1 (fun f ρ2 => match f with | .nx => I r ρ2 | .ct => I r ρ2 | .bk => KF .nx ρ2 | .rt v => KF (.rt v) ρ2) X) NX) → (∀ ρ, I [] ρ → KF .nx ρ) → Y0 (loop tg s xs) ρ KF X
  | [], ρ, h, _, e => e ρ h
  | x :: xs, ρ, h, st, e => by
    obtain ⟨f, ρ1, e1, rfl, z⟩ := (st x xs ρ h).mk
    conv => unfold Y0 loop
    rw [e1]
    dsimp only
    unfold Y0 at z
    cases es : s ρ1 with
    | none => rw [es] at z; exact z.elim
    | some y =>
      obtain ⟨r, ρ2⟩ := y
      rw [es] at z
      cases r with
      | er c pl => exact z
      | ok f =>
        cases f with
        | nx => have := Y0_loop (xs := xs) z st e; unfold Y0 at this; exact this
        | ct => have := Y0_loop (xs := xs) z st e; unfold Y0 at this; exact this
        | bk => exact z
        | rt v => exact z
theorem Y0_asgT {tg : Tg} : Y0 (evAsgT tg m) ρ KF X = Y0 (dat m) ρ (fun d ρ1 => Y0 (asgT tg d) ρ1 (fun f ρ2 => f = .nx ∧ KF .nx ρ2) NX) X := by
  unfold evAsgT; rw [Y0_bnd]; congr 1; funext d ρ1
  unfold Y0
  dsimp only
  generalize asgT tg d ρ1 = z
  cases z with
  | none => rfl
  | some x =>
    obtain ⟨r, ρ2⟩ := x
    cases r with
    | er c pl => rfl
    | ok f => cases f <;> simp
theorem Y0_asgTt {ts : List Tg} {xs : List D} : Y0 (asgT (.t ts) (.tup xs)) ρ KF X = Y0 (asgTs ts xs) ρ KF X := by rw [asgT]
theorem Y0_asgTs0 : Y0 (asgTs [] []) ρ KF X = KF .nx ρ := by rw [asgTs]; rfl
theorem Y0_asgTsC {t : Tg} {ts : List Tg} {x : D} {xs : List D} : Y0 (asgTs (t :: ts) (x :: xs)) ρ KF X = Y0 (evSeq (asgT t x) (asgTs ts xs)) ρ KF X := by rw [asgTs]
theorem Y0_part0 {KO : Option Int → List Sl → Prop} : Y0 (dPart none) ρ KO X = KO none ρ := id rfl
theorem Y0_partS {KO : Option Int → List Sl → Prop} : Y0 (dPart (some m)) ρ KO X = Y0 (dat m) ρ (fun d ρ1 => match d with | .int i => KO (some i) ρ1 | _ => False) X := by
  show Y0 (bnd (dat m) _) ρ KO X = _
  rw [Y0_bnd]; congr 1; funext d ρ1; cases d <;> rfl
theorem Y0_sl {l u : Option Ev} : Y0 (evSl m l u) ρ K X = Y0 (dat m) ρ (fun d ρ1 => Y0 (dPart l) ρ1 (fun lo ρ2 => Y0 (dPart u) ρ2 (fun hi ρ3 => match d with
    | .lst xs => K (.c (.lst (cut xs lo hi))) ρ3
    | .sq xs => K (.c (.lst (cut xs lo hi))) ρ3
    | .tup xs => K (.d (.tup (cut xs lo hi))) ρ3
    | .str z => z.length ≤ 16777216 ∧ K (.d (.str (cutS z lo hi))) ρ3
    | _ => False) X) X) X := by
  unfold evSl
  rw [Y0_bnd]; congr 1; funext d ρ1
  rw [Y0_bnd]; congr 1; funext lo ρ2
  rw [Y0_bnd]; congr 1; funext hi ρ3
  cases d <;> try rfl
  dsimp only
  rw [Y0_if]
  split
  · rename_i h; simp only [h, true_and]; rfl
  · rename_i h; simp only [h, false_and]; rfl
theorem Y0_rev : Y0 (evRev m) ρ K X = Y0 (dat m) ρ (fun d ρ1 => ∃ xs, d.litems = some xs ∧ K (.c (.lst xs.reverse)) ρ1) X := by
  unfold evRev
  rw [Y0_bnd]; congr 1; funext d ρ1
  cases d.litems with
  | none => exact propext ⟨fun h => h.elim, fun ⟨_, e, _⟩ => by cases e⟩
  | some xs => exact propext ⟨fun h => ⟨xs, rfl, h⟩, fun ⟨_, e, h⟩ => by cases e; exact h⟩
theorem Y0_vNoT : Y0 (vNoT m) ρ K X = Y0 (dat m) ρ (fun d ρ1 => ∃ b, d.truth = some b ∧ K (.d (.bl (!b))) ρ1) X := by
  unfold vNoT; rw [Y0_bnd]; congr 1; funext d ρ1; rw [Y0_opt]
  exact propext ⟨fun ⟨r, e, k⟩ => by obtain ⟨z, e1, e2⟩ := map_some e; subst e2; exact ⟨z, e1, k⟩, fun ⟨z, e, k⟩ => ⟨_, by rw [e]; rfl, k⟩⟩
theorem Y0_maxD {es : List DE} : Y0 (evMaxD es m) ρ K X = Y0 (evDs es) ρ (fun ds ρ1 => Y0 (dat m) ρ1 (fun d ρ2 => match d with | .int n => ∃ z, gMaxD n ds = some z ∧ K (.d z) ρ2 | _ => False) X) X := by
  unfold evMaxD
  rw [Y0_bnd]; congr 1; funext ds ρ1
  rw [Y0_bnd]; congr 1; funext d ρ2
  cases d <;> try rfl
  dsimp only
  rw [Y0_opt]
  exact propext ⟨fun ⟨r, e, k⟩ => by obtain ⟨z, e1, e2⟩ := map_some e; subst e2; exact ⟨z, e1, k⟩, fun ⟨z, e, k⟩ => ⟨_, by rw [e]; rfl, k⟩⟩
theorem Y0_itO {c : Cl} {KI : List D → List Sl → Prop} : Y0 (itO c i m) ρ KI X = Y0 (dat m) ρ (fun d ρ1 => match d with | .obj c' xs => c' = c ∧ (match xs[i]? with | some (.tup ys) => KI ys ρ1 | _ => False) | _ => False) X := by
  unfold itO
  rw [Y0_bnd]; congr 1; funext d ρ1
  cases d <;> try rfl
  dsimp only
  rw [Y0_if]
  split
  · rename_i h
    simp only [h, true_and]
    rename_i xs
    cases xs[i]? with
    | none => rfl
    | some d => cases d <;> rfl
  · rename_i h; simp only [h, false_and]; rfl
/-- a comprehension whose element is a function of the item -/
theorem Y0_lc {vs : List Nat} {it : M (List D)} {tg : Tg} {e : Ev} : Y0 (evLc vs it tg u e) ρ K X = Y0 it ρ (fun xs ρ1 => okOwn ρ1 vs = true ∧ Y0 (lcGo vs tg u e xs []) (wipeR ρ1 vs) (fun acc ρ2 => K (.c (.lst acc)) (restR ρ1 ρ2 vs)) NX) X := by
  unfold evLc
  rw [Y0_bnd]; congr 1; funext xs ρ1
  unfold lcRun
  conv => lhs; unfold Y0
  by_cases h : okOwn ρ1 vs = true
  · simp only [h, if_true, true_and]
    unfold Y0
    cases lcGo vs tg u e xs [] (wipeR ρ1 vs) with
    | none => rfl
    | some x => obtain ⟨r, ρ2⟩ := x; cases r <;> rfl
  · have h' : okOwn ρ1 vs = false := by simpa using h
    simp [h']
/-- .. item by item: f x is none where the test fails -/
theorem Y0_lcGo {vs : List Nat} {tg : Tg} {e : Ev} {f : D → Option D} {ρ0 : List Sl} {KS : List D → List Sl → Prop} {P : D → Prop} (st : ∀ (x : D) (acc : List D), P x → acc.length < 16777216 → Y0 (asgT tg x) ρ0 (fun g ρ1 => g = .nx ∧ Y0 (noEr u) ρ1 (fun b ρ2 => if b = true then Y0 (dat (noEr e)) ρ2 (fun d ρ3 => f x = some d ∧ wipeR ρ3 vs = ρ0) NX else f x = none ∧ wipeR ρ2 vs = ρ0) NX) NX) :
    ∀ (xs acc : List D), (∀ x ∈ xs, P x) → acc.length + xs.length ≤ 16777216 → KS (acc ++ xs.filterMap f) ρ0 → Y0 (lcGo vs tg u e xs acc) ρ0 KS X
  | [], acc, _, _, h => by rw [List.filterMap_nil, List.append_nil] at h; exact h
  | x :: xs, acc, hp, hl, h => by
    rw [List.length_cons] at hl
    obtain ⟨g, ρ1, e1, rfl, z⟩ := (st x acc (hp x List.mem_cons_self) (by omega)).mk
    obtain ⟨b, ρ2, e2, z⟩ := z.mk
    have hp' : ∀ y ∈ xs, P y := fun y hy => hp y (List.mem_cons_of_mem _ hy)
    conv => unfold Y0 lcGo
    rw [e1]
    show Y0 (bnd _ _) ρ1 KS X
    rw [Y0_bnd]
    refine Y0.of e2 ?_
    cases b with
    | false =>
      simp only [Bool.false_eq_true, if_false] at z ⊢
      obtain ⟨z1, z2⟩ := z
      have : Y0 (fun ρ => lcGo vs tg u e xs acc (wipeR ρ vs)) ρ2 KS X = Y0 (lcGo vs tg u e xs acc) (wipeR ρ2 vs) KS X := rfl
      rw [this, z2]
      refine Y0_lcGo st xs acc hp' (by omega) ?_
      rw [List.filterMap_cons, z1] at h
      exact h
    | true =>
      simp only [if_true] at z ⊢
      obtain ⟨d, ρ3, e3, z1, z2⟩ := z.mk
      rw [Y0_bnd]
      refine Y0.of e3 ?_
      rw [if_pos (by omega)]
      have : Y0 (fun ρ => lcGo vs tg u e xs (acc ++ [d]) (wipeR ρ vs)) ρ3 KS X = Y0 (lcGo vs tg u e xs (acc ++ [d])) (wipeR ρ3 vs) KS X := rfl
      rw [this, z2]
      refine Y0_lcGo st xs (acc ++ [d]) hp' (by rw [List.length_append, List.length_singleton]; omega) ?_
      rw [List.filterMap_cons, z1] at h
      simpa using h
/-- .. with an invariant: the element may change cells -/
theorem Y0_lcI {vs : List Nat} {tg : Tg} {e : Ev} {KS : List D → List Sl → Prop} {I : List D → List D → List Sl → Prop} {xs acc : List D} (h : I xs acc ρ)
    (st : ∀ (x : D) (r acc : List D) (ρ : List Sl), I (x :: r) acc ρ → acc.length < 16777216 ∧ Y0 (asgT tg x) ρ (fun g ρ1 => g = .nx ∧ Y0 (noEr u) ρ1 (fun b ρ2 => if b = true then Y0 (dat (noEr e)) ρ2 (fun d ρ3 => I r (acc ++ [d]) (wipeR ρ3 vs)) NX else I r acc (wipeR ρ2 vs)) NX) NX)
    (fin : ∀ (acc : List D) (ρ : List Sl), I [] acc ρ → KS acc ρ) : Y0 (lcGo vs tg u e xs acc) ρ KS X := by
  induction xs generalizing acc ρ with
  | nil => exact fin acc ρ h
  | cons x xs ih =>
    obtain ⟨hl, z⟩ := st x xs acc ρ h
    obtain ⟨g, ρ1, e1, rfl, z⟩ := z.mk
    obtain ⟨b, ρ2, e2, z⟩ := z.mk
    conv => unfold Y0 lcGo
    rw [e1]
    show Y0 (bnd _ _) ρ1 KS X
    rw [Y0_bnd]
    refine Y0.of e2 ?_
    cases b with
    | false =>
      simp only [Bool.false_eq_true, if_false] at z ⊢
      have : Y0 (fun ρ => lcGo vs tg u e xs acc (wipeR ρ vs)) ρ2 KS X = Y0 (lcGo vs tg u e xs acc) (wipeR ρ2 vs) KS X := rfl
      rw [this]
      exact ih z
    | true =>
      simp only [if_true] at z ⊢
      obtain ⟨d, ρ3, e3, z⟩ := z.mk
      rw [Y0_bnd]
      refine Y0.of e3 ?_
      rw [if_pos (by omega)]
      have : Y0 (fun ρ => lcGo vs tg u e xs (acc ++ [d]) (wipeR ρ vs)) ρ3 KS X = Y0 (lcGo vs tg u e xs (acc ++ [d])) (wipeR ρ3 vs) KS X := rfl
      rw [this]
      exact ih z
theorem Y0_lc2 {vs vs1 : List Nat} {it it1 : M (List D)} {tg tg1 : Tg} {v : M Bool} {e : Ev} : Y0 (evLc2 vs it tg u it1 vs1 tg1 v e) ρ K X = Y0 it ρ (fun xs ρ1 => okOwn ρ1 vs = true ∧ Y0 (lcGo2 vs tg u it1 vs1 tg1 v e xs []) (wipeR ρ1 vs) (fun acc ρ2 => K (.c (.lst acc)) (restR ρ1 ρ2 vs)) NX) X := by
  unfold evLc2
  rw [Y0_bnd]; congr 1; funext xs ρ1
  unfold lcRun
  conv => lhs; unfold Y0
  by_cases h : okOwn ρ1 vs = true
  · simp only [h, if_true, true_and]
    unfold Y0
    cases lcGo2 vs tg u it1 vs1 tg1 v e xs [] (wipeR ρ1 vs) with
    | none => rfl
    | some x => obtain ⟨r, ρ2⟩ := x; cases r <;> rfl
  · have h' : okOwn ρ1 vs = false := by simpa using h
    simp [h']
/-- .. item by item: f x is what the inner walk adds -/
theorem Y0_lcGo2 {vs vs1 : List Nat} {it1 : M (List D)} {tg tg1 : Tg} {v : M Bool} {e : Ev} {f : D → List D} {ρ0 : List Sl} {KS : List D → List Sl → Prop} {P : D → Prop} (st : ∀ (x : D) (acc : List D), P x → acc.length + (f x).length ≤ 16777216 → Y0 (asgT tg x) ρ0 (fun g ρ1 => g = .nx ∧ Y0 (noEr u) ρ1 (fun b ρ2 => if b = true then Y0 (noEr it1) ρ2 (fun ys ρ3 => Y0 (lcGo vs1 tg1 v e ys acc) (wipeR ρ3 vs1) (fun acc' ρ4 => acc' = acc ++ f x ∧ wipeR ρ4 vs = ρ0) NX) NX else f x = [] ∧ wipeR ρ2 vs = ρ0) NX) NX) :
    ∀ (xs acc : List D), (∀ x ∈ xs, P x) → acc.length + (xs.flatMap f).length ≤ 16777216 → KS (acc ++ xs.flatMap f) ρ0 → Y0 (lcGo2 vs tg u it1 vs1 tg1 v e xs acc) ρ0 KS X
  | [], acc, _, _, h => by rw [List.flatMap_nil, List.append_nil] at h; exact h
  | x :: xs, acc, hp, hl, h => by
    rw [List.flatMap_cons, List.length_append] at hl
    rw [List.flatMap_cons, ← List.append_assoc] at h
    obtain ⟨g, ρ1, e1, rfl, z⟩ := (st x acc (hp x List.mem_cons_self) (by omega)).mk
    obtain ⟨b, ρ2, e2, z⟩ := z.mk
    have hp' : ∀ y ∈ xs, P y := fun y hy => hp y (List.mem_cons_of_mem _ hy)
    conv => unfold Y0 lcGo2
    rw [e1]
    show Y0 (bnd _ _) ρ1 KS X
    rw [Y0_bnd]
    refine Y0.of e2 ?_
    cases b with
    | false =>
      simp only [Bool.false_eq_true, if_false] at z ⊢
      obtain ⟨z1, z2⟩ := z
      have : Y0 (fun ρ => lcGo2 vs tg u it1 vs1 tg1 v e xs acc (wipeR ρ vs)) ρ2 KS X = Y0 (lcGo2 vs tg u it1 vs1 tg1 v e xs acc) (wipeR ρ2 vs) KS X := rfl
      rw [this, z2]
      rw [z1, List.append_nil] at h
      exact Y0_lcGo2 st xs acc hp' (by omega) h
    | true =>
      simp only [if_true] at z ⊢
      obtain ⟨ys, ρ3, e3, z⟩ := z.mk
      obtain ⟨acc', ρ4, e4, rfl, z2⟩ := z.mk
      rw [Y0_bnd]
      refine Y0.of e3 ?_
      rw [Y0_bnd]
      refine Y0.of (a := acc ++ f x) (ρ1 := ρ4) e4 ?_
      have : Y0 (fun ρ => lcGo2 vs tg u it1 vs1 tg1 v e xs (acc ++ f x) (wipeR ρ vs)) ρ4 KS X = Y0 (lcGo2 vs tg u it1 vs1 tg1 v e xs (acc ++ f x)) (wipeR ρ4 vs) KS X := rfl
      rw [this, z2]
      exact Y0_lcGo2 st xs (acc ++ f x) hp' (by rw [List.length_append]; omega) h
/-- exceptions -/
theorem Y0.okE {α : Type} {m : M α} {ρ ρ1 : List Sl} {a : α} {K : α → List Sl → Prop} {X : XC} (e : m ρ = some (.ok a, ρ1)) : Y0 m ρ K X = K a ρ1 := by unfold Y0; rw [e]
theorem Y0.erE {α : Type} {m : M α} {ρ ρ1 : List Sl} {c : Cl} {pl : Option D} {K : α → List Sl → Prop} {X : XC} (e : m ρ = some (.er c pl, ρ1)) : Y0 m ρ K X = X c pl ρ1 := by unfold Y0; rw [e]
theorem Y0.noE {α : Type} {m : M α} {ρ : List Sl} {K : α → List Sl → Prop} {X : XC} (e : m ρ = none) : Y0 m ρ K X = False := by unfold Y0; rw [e]
theorem Y0.cg {α : Type} {m m' : M α} {ρ ρ' : List Sl} {K : α → List Sl → Prop} {X : XC} (e : m ρ = m' ρ') : Y0 m ρ K X = Y0 m' ρ' K X := by unfold Y0; rw [e]
theorem Y0_suiteO : Y0 (suiteO t) ρ KF X = (noExn ρ = true ∧ Y0 t ρ (fun f ρ2 => noExn ρ2 = true ∧ KF f ρ2) NX) := by
  by_cases h : noExn ρ = true
  · cases e : t ρ with
    | none => rw [Y0.noE (m := suiteO t) (by unfold suiteO; rw [if_pos h, e]), Y0.noE e]; simp
    | some x =>
      obtain ⟨r, ρ2⟩ := x
      cases r with
      | er c pl => rw [Y0.noE (m := suiteO t) (by unfold suiteO; rw [if_pos h, e]), Y0.erE e]; simp
      | ok f =>
        rw [Y0.okE e]
        by_cases h2 : noExn ρ2 = true
        · rw [Y0.okE (m := suiteO t) (a := f) (ρ1 := ρ2) (by unfold suiteO; rw [if_pos h, e]; simp only [h2, if_true])]; simp [h, h2]
        · rw [Y0.noE (m := suiteO t) (by unfold suiteO; rw [if_pos h, e]; simp only [h2]; rfl)]; simp [h2]
  · rw [Y0.noE (m := suiteO t) (by unfold suiteO; rw [if_neg h])]; simp [h]
theorem Y0_suiteA {c : Cl} {pl : Option D} : Y0 (suiteA i c pl t) ρ KF X = (noExn ρ = true ∧ ∃ z, ρ[i]? = some z ∧ canSet z = true ∧ Y0 t (ρ.set i (.exn c pl)) (fun f ρ2 => noExn (ρ2.set i .un) = true ∧ KF f (ρ2.set i .un)) NX) := by
  by_cases h : noExn ρ = true
  · cases hz : ρ[i]? with
    | none => rw [Y0.noE (m := suiteA i c pl t) (by unfold suiteA; rw [if_pos h, hz])]; simp
    | some z =>
      by_cases hc : canSet z = true
      · have e0 : suiteA i c pl t ρ = (match t (ρ.set i (.exn c pl)) with | some (.ok f, ρ2) => if noExn (ρ2.set i .un) = true then some (.ok f, ρ2.set i .un) else none | _ => none) := by
          unfold suiteA
          rw [if_pos h, hz]
          cases z with
          | cel k cc => cases k with
            | own => rfl
            | par => cases hc
          | _ => rfl
        have right : (noExn ρ = true ∧ ∃ z', some z = some z' ∧ canSet z' = true ∧ Y0 t (ρ.set i (.exn c pl)) (fun f ρ2 => noExn (ρ2.set i .un) = true ∧ KF f (ρ2.set i .un)) NX) = Y0 t (ρ.set i (.exn c pl)) (fun f ρ2 => noExn (ρ2.set i .un) = true ∧ KF f (ρ2.set i .un)) NX := propext ⟨fun ⟨_, _, _, _, q⟩ => q, fun q => ⟨h, z, rfl, hc, q⟩⟩
        rw [right]
        cases e : t (ρ.set i (.exn c pl)) with
        | none => rw [e] at e0; rw [Y0.noE e0, Y0.noE e]
        | some x =>
          obtain ⟨r, ρ2⟩ := x
          cases r with
          | er c pl => rw [e] at e0; rw [Y0.noE e0, Y0.erE e]
          | ok f =>
            rw [e] at e0
            rw [Y0.okE e]
            by_cases h2 : noExn (ρ2.set i .un) = true
            · rw [Y0.okE (e0.trans (if_pos h2))]; simp [h2]
            · rw [Y0.noE (e0.trans (if_neg h2))]; simp [h2]
      · have : suiteA i c pl t ρ = none := by
          unfold suiteA
          rw [if_pos h, hz]
          cases z with
          | cel k cc => cases k with
            | own => exact absurd rfl hc
            | par => rfl
          | _ => exact absurd rfl hc
        rw [Y0.noE this]
        exact propext ⟨fun q => q.elim, fun ⟨_, _, e, q, _⟩ => by cases e; exact hc q⟩
  · rw [Y0.noE (m := suiteA i c pl t) (by unfold suiteA; rw [if_neg h])]; simp [h]
theorem Y0_tryO {cat : List (Cl × Bool)} : Y0 (evTryO s cat t) ρ KF X = Y0 s ρ KF (fun c pl ρ1 => match cat.lookup c with | some true => noExn ρ1 = true ∧ Y0 t ρ1 (fun f ρ2 => noExn ρ2 = true ∧ KF f ρ2) NX | some false => X c pl ρ1 | none => False) := by
  cases e : s ρ with
  | none => rw [Y0.noE e, Y0.noE (m := evTryO s cat t) (by unfold evTryO; rw [e])]
  | some x =>
    obtain ⟨r, ρ1⟩ := x
    cases r with
    | ok f => rw [Y0.okE e, Y0.okE (m := evTryO s cat t) (a := f) (ρ1 := ρ1) (by unfold evTryO; rw [e])]
    | er c pl =>
      rw [Y0.erE e]
      have e0 : evTryO s cat t ρ = (match cat.lookup c with | some true => suiteO t ρ1 | some false => some (.er c pl, ρ1) | none => none) := by unfold evTryO; rw [e] <;> rfl
      cases el : cat.lookup c with
      | none => rw [el] at e0; rw [Y0.noE e0]
      | some b =>
        rw [el] at e0
        cases b with
        | false => rw [Y0.erE e0]
        | true => rw [Y0.cg (m' := suiteO t) (ρ' := ρ1) e0, Y0_suiteO]
theorem Y0_tryA {cat : List (Cl × Bool)} : Y0 (evTryA i s cat t) ρ KF X = Y0 s ρ KF (fun c pl ρ1 => match cat.lookup c with
    | some true => noExn ρ1 = true ∧ ∃ z, ρ1[i]? = some z ∧ canSet z = true ∧ Y0 t (ρ1.set i (.exn c pl)) (fun f ρ2 => noExn (ρ2.set i .un) = true ∧ KF f (ρ2.set i .un)) NX
    | some false => X c pl ρ1
    | none => False) := by
  cases e : s ρ with
  | none => rw [Y0.noE e, Y0.noE (m := evTryA i s cat t) (by unfold evTryA; rw [e])]
  | some x =>
    obtain ⟨r, ρ1⟩ := x
    cases r with
    | ok f => rw [Y0.okE e, Y0.okE (m := evTryA i s cat t) (a := f) (ρ1 := ρ1) (by unfold evTryA; rw [e])]
    | er c pl =>
      rw [Y0.erE e]
      have e0 : evTryA i s cat t ρ = (match cat.lookup c with | some true => suiteA i c pl t ρ1 | some false => some (.er c pl, ρ1) | none => none) := by unfold evTryA; rw [e] <;> rfl
      cases el : cat.lookup c with
      | none => rw [el] at e0; rw [Y0.noE e0]
      | some b =>
        rw [el] at e0
        cases b with
        | false => rw [Y0.erE e0]
        | true => rw [Y0.cg (m' := suiteA i c pl t) (ρ' := ρ1) e0, Y0_suiteA]
theorem Y0_tryM {cs : List Clp} : Y0 (evTryM s cs) ρ KF X = Y0 s ρ KF (fun c pl ρ1 => Y0 (pick cs c pl) ρ1 KF X) := by
  cases e : s ρ with
  | none => rw [Y0.noE e, Y0.noE (m := evTryM s cs) (by unfold evTryM; rw [e])]
  | some x =>
    obtain ⟨r, ρ1⟩ := x
    cases r with
    | ok f => rw [Y0.okE e, Y0.okE (m := evTryM s cs) (a := f) (ρ1 := ρ1) (by unfold evTryM; rw [e])]
    | er c pl =>
      rw [Y0.erE e]
      have e0 : evTryM s cs ρ = pick cs c pl ρ1 := by unfold evTryM; rw [e] <;> rfl
      rw [Y0.cg e0]
theorem Y0_pick0 {c : Cl} {pl : Option D} : Y0 (pick [] c pl) ρ KF X = X c pl ρ := id rfl
theorem Y0_pickC {c : Cl} {pl : Option D} {cat : List (Cl × Bool)} {cs : List Clp} : Y0 (pick ((i, cat, t) :: cs) c pl) ρ KF X = match cat.lookup c with
    | some true => Y0 (suiteA i c pl t) ρ KF X
    | some false => Y0 (pick cs c pl) ρ KF X
    | none => False := by
  have e0 : pick ((i, cat, t) :: cs) c pl ρ = (match cat.lookup c with | some true => suiteA i c pl t ρ | some false => pick cs c pl ρ | none => none) := rfl
  cases el : cat.lookup c with
  | none => rw [el] at e0; rw [Y0.noE e0]
  | some b =>
    rw [el] at e0
    cases b with
    | true => exact Y0.cg e0
    | false => exact Y0.cg e0
theorem Y0_isE {tbl : List (TyN × Bool)} : Y0 (evIsE i tbl) ρ K X = match ρ[i]? with | some (.exn c _) => ∃ b, tbl.lookup (.o c) = some b ∧ K (.d (.bl b)) ρ | _ => False := by
  unfold Y0 evIsE
  cases ρ[i]? with
  | none => rfl
  | some s => cases s with
    | exn c pl =>
      dsimp only
      cases tbl.lookup (.o c) with
      | none => exact propext ⟨fun h => h.elim, fun ⟨_, e, _⟩ => by cases e⟩
      | some b => exact propext ⟨fun h => ⟨b, rfl, h⟩, fun ⟨_, e, h⟩ => by cases e; exact h⟩
    | _ => rfl
theorem Y0_js0 {acc : Str} {KZ : Str → List Sl → Prop} : Y0 (evJs [] acc) ρ KZ X = KZ acc ρ := id rfl
theorem Y0_jsC {ms : List Ev} {acc : Str} {KZ : Str → List Sl → Prop} : Y0 (evJs (m :: ms) acc) ρ KZ X = Y0 (dat m) ρ (fun d ρ1 => match d with | .str y => (acc ++ y).length ≤ 16777216 ∧ Y0 (evJs ms (acc ++ y)) ρ1 KZ X | _ => False) X := by
  show Y0 (bnd (dat m) _) ρ KZ X = _
  rw [Y0_bnd]; congr 1; funext d ρ1
  cases d <;> try rfl
  rename_i y
  show Y0 (if (acc ++ y).length ≤ 16777216 then evJs ms (acc ++ y) else fai) ρ1 KZ X = _
  rw [Y0_if]
  by_cases h : (acc ++ y).length ≤ 16777216
  · rw [if_pos h]; exact propext ⟨fun q => ⟨h, q⟩, fun q => q.2⟩
  · rw [if_neg h]; exact propext ⟨fun q => q.elim, fun q => h q.1⟩
theorem Y0_jn {ms : List Ev} : Y0 (evJn ms) ρ K X = Y0 (evJs ms Str.empty) ρ (fun s ρ1 => K (.d (.str s)) ρ1) X := by unfold evJn; rw [Y0_bnd]; rfl
theorem ne_0 : noExn [] = true := id rfl
theorem ne_d {d : D} : noExn (.dat d :: ρ) = noExn ρ := id rfl
theorem ne_u : noExn (.un :: ρ) = noExn ρ := id rfl
theorem ne_c {k : CK} {c : CC} : noExn (.cel k c :: ρ) = noExn ρ := id rfl
theorem ne_x {c : Cl} {pl : Option D} : noExn (.exn c pl :: ρ) = false := id rfl
/-! dicts -/
theorem Y0_isK {P : Rv → List Sl → Prop} : Y0 (isK j) ρ P X = match ρ[j]? with | some (.cel _ (.dK _)) => P (.d .non) ρ | _ => False := by
  unfold Y0 isK
  cases ρ[j]? with
  | none => rfl
  | some s => cases s with
    | cel k c => cases c <;> rfl
    | _ => rfl
theorem Y0_getK {f : List (Key × D) → Option D} : Y0 (getK j f) ρ K X = match ρ[j]? with | some (.cel _ (.dK kvs)) => ∃ d, f kvs = some d ∧ K (.d d) ρ | _ => False := by
  unfold Y0 getK
  cases ρ[j]? with
  | none => rfl
  | some s => cases s with
    | cel k c => cases c with
      | dK kvs =>
        dsimp only
        cases f kvs with
        | none => exact propext ⟨fun h => h.elim, fun ⟨_, e, _⟩ => by cases e⟩
        | some d => exact propext ⟨fun h => ⟨d, rfl, h⟩, fun ⟨_, e, h⟩ => by cases e; exact h⟩
      | _ => rfl
    | _ => rfl
theorem Y0_dget : Y0 (evDGet j m) ρ K X = match ρ[j]? with | some (.cel _ (.dK _)) => Y0 (dat m) ρ (fun k ρ1 => match ρ1[j]? with | some (.cel _ (.dK kvs)) => ∃ d, k.key.bind (dval kvs) = some d ∧ K (.d d) ρ1 | _ => False) X | _ => False := by
  unfold evDGet
  rw [Y0_bnd, Y0_isK]
  simp only [Y0_bnd, Y0_getK]
theorem Y0_dget2 : Y0 (evDGet2 j m a) ρ K X = match ρ[j]? with | some (.cel _ (.dK _)) => Y0 (dat m) ρ (fun k ρ1 => Y0 (dat a) ρ1 (fun d ρ2 => match ρ2[j]? with | some (.cel _ (.dK kvs)) => ∃ z, k.key.map (fun k => (dval kvs k).getD d) = some z ∧ K (.d z) ρ2 | _ => False) X) X | _ => False := by
  unfold evDGet2
  rw [Y0_bnd, Y0_isK]
  simp only [Y0_bnd, Y0_getK]
theorem Y0_dput : Y0 (evDPut j m a) ρ KF X = Y0 (dat a) ρ (fun d ρ1 => match ρ1[j]? with | some (.cel _ (.dK _)) => Y0 (dat m) ρ1 (fun k ρ2 => (match ρ2[j]? with | some (.cel c (.dK kvs)) => ∃ k', k.key = some k' ∧ kvs.length < 16777216 ∧ KF .nx (ρ2.set j (.cel c (.dK (dput kvs k' d)))) | _ => False)) X | _ => False) X := by
  unfold evDPut
  rw [Y0_bnd]; congr 1; funext d ρ1
  rw [Y0_bnd, Y0_isK]
  cases ρ1[j]? with
  | none => rfl
  | some s => cases s with
    | cel k c => cases c with
      | dK kvs =>
        dsimp only
        rw [Y0_bnd]; congr 1; funext kk ρ2
        unfold Y0
        dsimp only
        generalize ρ2[j]? = z
        cases z with
        | none => rfl
        | some s => cases s with
          | cel k c => cases c with
            | dK kvs =>
              dsimp only
              cases kk.key with
              | none => exact propext ⟨fun h => h.elim, fun ⟨_, e, _⟩ => (by cases e)⟩
              | some k' =>
                dsimp only
                by_cases h : kvs.length < 16777216
                · rw [if_pos h]; exact propext ⟨fun q => ⟨k', rfl, h, q⟩, fun ⟨_, e, _, q⟩ => by cases e; exact q⟩
                · rw [if_neg h]; exact propext ⟨fun q => q.elim, fun ⟨_, _, q, _⟩ => h q⟩
            | _ => rfl
          | _ => rfl
      | _ => rfl
    | _ => rfl
theorem Y0_sortDR : Y0 (evSortDR j) ρ K X = match ρ[j]? with | some (.cel _ (.dK kvs)) => ∃ ks, keysI kvs = some ks ∧ K (.c (.lst ((down ks).map D.int))) ρ | _ => False := by
  unfold Y0 evSortDR
  cases ρ[j]? with
  | none => rfl
  | some s => cases s with
    | cel k c => cases c with
      | dK kvs =>
        dsimp only
        cases keysI kvs with
        | none => exact propext ⟨fun h => h.elim, fun ⟨_, e, _⟩ => by cases e⟩
        | some d => exact propext ⟨fun h => ⟨d, rfl, h⟩, fun ⟨_, e, h⟩ => by cases e; exact h⟩
      | _ => rfl
    | _ => rfl
theorem dval_put {kvs : List (Key × D)} {k k' : Key} {d : D} : dval (dput kvs k d) k' = if k' = k then some d else dval kvs k' := by
  induction kvs with
  | nil =>
    unfold dput dval
    by_cases e : k' = k
    · subst e; simp
    · simp [e, Ne.symm e]
  | cons p r ih =>
    obtain ⟨k0, d0⟩ := p
    by_cases e0 : k0 = k
    · subst e0
      have : dput ((k0, d0) :: r) k0 d = (k0, d) :: r.map (fun kv => if kv.1 = k0 then (kv.1, d) else kv) := by unfold dput; simp
      rw [this]
      by_cases e : k' = k0
      · subst e; simp [dval]
      · rw [if_neg e]
        have rest : dval (r.map (fun kv => if kv.1 = k0 then (kv.1, d) else kv)) k' = dval r k' := by
          clear ih this
          induction r with
          | nil => rfl
          | cons q r ih =>
            obtain ⟨k1, d1⟩ := q
            by_cases e1 : k1 = k'
            · subst e1; simp [dval, e]
            · by_cases e2 : k1 = k0
              · subst e2; simpa [dval, e1] using ih
              · simpa [dval, e1, e2] using ih
        have : ∀ (d : D) (l : List (Key × D)), dval ((k0, d) :: l) k' = dval l k' := fun d l => by simp [dval, Ne.symm e]
        rw [this, this, rest]
    · have : dput ((k0, d0) :: r) k d = (k0, d0) :: dput r k d := by
        unfold dput
        simp only [List.any_cons, e0, decide_false, Bool.false_or]
        split <;> simp [e0]
      rw [this]
      by_cases e1 : k0 = k'
      · subst e1; simp [dval, e0]
      · have : ∀ (l : List (Key × D)), dval ((k0, d0) :: l) k' = dval l k' := fun l => by simp [dval, e1]
        rw [this, this, ih]
theorem dval_mem {kvs : List (Key × D)} {k : Key} : (∃ v, dval kvs k = some v) ↔ k ∈ kvs.map (·.1) := by
  induction kvs with
  | nil => simp [dval]
  | cons p r ih =>
    by_cases e : p.1 = k
    · simp [dval, e]
    · have : dval (p :: r) k = dval r k := by simp [dval, e]
      rw [this, ih, List.map_cons, List.mem_cons]
      exact ⟨.inr, fun h => h.elim (fun z => absurd z.symm e) id⟩
theorem dput_in {kvs : List (Key × D)} {k : Key} {v : D} (h : k ∈ kvs.map (·.1)) : (dput kvs k v).map (·.1) = kvs.map (·.1) := by
  unfold dput
  have h1 : (kvs.any fun kv => decide (kv.1 = k)) = true := by
    rw [List.any_eq_true]
    obtain ⟨kv, a, b⟩ := List.mem_map.mp h
    exact ⟨kv, a, by simp [b]⟩
  rw [if_pos h1, List.map_map]
  refine List.map_congr_left fun kv _ => ?_
  show (if kv.1 = k then (kv.1, v) else kv).1 = kv.1
  split <;> rfl
theorem dput_out {kvs : List (Key × D)} {k : Key} {v : D} (h : ¬ k ∈ kvs.map (·.1)) : (dput kvs k v).map (·.1) = kvs.map (·.1) ++ [k] := by
  unfold dput
  have h1 : ¬ (kvs.any fun kv => decide (kv.1 = k)) = true := by
    rw [List.any_eq_true]
    rintro ⟨kv, a, b⟩
    exact h (List.mem_map.mpr ⟨kv, a, by simpa using b⟩)
  rw [if_neg h1, List.map_append]
  rfl
theorem keysI_of : ∀ {kvs : List (Key × D)} {ws : List Int}, kvs.map (·.1) = ws.map Sum.inl → keysI kvs = some ws
  | [], ws, h => by cases ws with
    | nil => rfl
    | cons => cases h
  | (k, d) :: kvs, ws, h => by
    cases ws with
    | nil => cases h
    | cons w ws =>
      (rw [List.map_cons, List.map_cons] at h)
      injection h with h1 h2
      have h1 : k = Sum.inl w := h1
      subst h1
      show (keysI kvs).map (w :: ·) = _
      rw [keysI_of h2]
      rfl
theorem Y0_asgN {d : D} : Y0 (asgT (.n i) d) ρ KF X = Y0 (setD i d) ρ KF X := id rfl
theorem Y0_itL {KI : List D → List Sl → Prop} : Y0 (itL m) ρ KI X = Y0 (dat m) ρ (fun d ρ1 => ∃ xs, d.litems = some xs ∧ KI xs ρ1) X := by unfold itL; rw [Y0_bnd]; congr 1; funext d ρ1; rw [Y0_opt]
theorem Y0_itT {KI : List D → List Sl → Prop} : Y0 (itT m) ρ KI X = Y0 (dat m) ρ (fun d ρ1 => ∃ xs, d.titems = some xs ∧ KI xs ρ1) X := by unfold itT; rw [Y0_bnd]; congr 1; funext d ρ1; rw [Y0_opt]
theorem Y0_itET {KI : List D → List Sl → Prop} : Y0 (itET m) ρ KI X = Y0 (dat m) ρ (fun d ρ1 => match d with | .tup xs => KI (enumD xs) ρ1 | _ => False) X := by
  unfold itET; rw [Y0_bnd]; congr 1; funext d ρ1
  cases d <;> rfl
theorem Y0_itEL {KI : List D → List Sl → Prop} : Y0 (itEL m) ρ KI X = Y0 (dat m) ρ (fun d ρ1 => match d with | .lst xs => KI (enumD xs) ρ1 | .sq xs => KI (enumD xs) ρ1 | _ => False) X := by
  unfold itEL; rw [Y0_bnd]; congr 1; funext d ρ1
  cases d <;> rfl
theorem Y0_cnt {o e : Ev} : Y0 (evCnt o e) ρ K X = Y0 (dat o) ρ (fun x ρ1 => match x with | .str a => Y0 (dat e) ρ1 (fun y ρ2 => match y with | .str b => K (.d (.int (Txt.count a b))) ρ2 | _ => False) X | _ => False) X := by
  unfold evCnt; rw [Y0_bnd]; congr 1; funext x ρ1
  cases x <;> try rfl
  dsimp only
  rw [Y0_bnd]; congr 1; funext y ρ2
  cases y <;> rfl
theorem Y0_itZ {KI : List D → List Sl → Prop} : Y0 (itZ a b) ρ KI X = Y0 (dat a) ρ (fun d ρ1 => Y0 (dat b) ρ1 (fun d2 ρ2 => match d, d2 with | .lst xs, .lst ys => KI (zipD xs ys) ρ2 | .tup xs, .tup ys => KI (zipD xs ys) ρ2 | _, _ => False) X) X := by
  unfold itZ; rw [Y0_bnd]; congr 1; funext d ρ1
  rw [Y0_bnd]; congr 1; funext d2 ρ2
  cases d <;> cases d2 <;> rfl
theorem Y0_itR3 {KI : List D → List Sl → Prop} {c : Ev} : Y0 (itR3 a b c) ρ KI X = Y0 (dat a) ρ (fun d ρ1 => Y0 (dat b) ρ1 (fun d2 ρ2 => Y0 (dat c) ρ2 (fun d3 ρ3 => match d, d2, d3 with | .int i, .int j, .int k => stepOk i j k ∧ KI (rng3D i k (Builtin.Range.rangeSize i j k).toNat) ρ3 | _, _, _ => False) X) X) X := by
  unfold itR3; rw [Y0_bnd]; congr 1; funext d ρ1
  rw [Y0_bnd]; congr 1; funext d2 ρ2
  rw [Y0_bnd]; congr 1; funext d3 ρ3
  cases d <;> first | rfl | (cases d2 <;> first | rfl | (cases d3 <;> try rfl))
  dsimp only
  rw [Y0_if]
  split
  · rename_i h; simp only [h, true_and]; rfl
  · rename_i h; simp only [h, false_and]; rfl
theorem Y0_itS {KI : List D → List Sl → Prop} : Y0 (itS m) ρ KI X = Y0 (dat m) ρ (fun d ρ1 => ∃ xs, d.sitems = some xs ∧ KI xs ρ1) X := by
  unfold itS; rw [Y0_bnd]; congr 1; funext d ρ1; rw [Y0_opt]
theorem Y0_join : Y0 (evJoin a b) ρ K X = Y0 (dat a) ρ (fun x ρ1 => match x with | .str z => Y0 (dat b) ρ1 (fun d ρ2 => ∃ r, dJoin z d = some r ∧ K (.d r) ρ2) X | _ => False) X := by
  unfold evJoin; rw [Y0_bnd]; congr 1; funext x ρ1
  cases x <;> try rfl
  dsimp only
  rw [Y0_bnd]; congr 1; funext d ρ2; rw [Y0_opt]
  exact propext ⟨fun ⟨r, e, k⟩ => by obtain ⟨z, e1, e2⟩ := map_some e; subst e2; exact ⟨z, e1, k⟩, fun ⟨z, e, k⟩ => ⟨_, by rw [e]; rfl, k⟩⟩
theorem Y0_xf {c : Cl} : Y0 (evXf i c) ρ K X = match ρ[i]? with | some (.exn c' (some d)) => c' = c ∧ K (.d d) ρ | _ => False := by
  unfold Y0 evXf
  cases ρ[i]? with
  | none => rfl
  | some s => cases s with
    | exn c' pl => cases pl with
      | none => rfl
      | some d =>
        dsimp only
        by_cases h : c' = c
        · rw [if_pos h]; simp only [h, true_and]
        · rw [if_neg h]; simp only [h, false_and]
    | _ => rfl
/-- while: an invariant with a measure -/
theorem Y0_whl {t : M Bool} {I : Nat → List Sl → Prop} {n : Nat} (h : I n ρ) (st : ∀ n ρ, I n ρ → Y0 t ρ (fun c ρ1 => if c = true then Y0 s ρ1 (fun f ρ2 => match f with | .nx => ∃ k, k < n ∧ I k ρ2 | .ct => ∃ k, k < n ∧ I k ρ2 | .bk => KF .nx ρ2 | .rt v => KF (.rt v) ρ2) X else KF .nx ρ1) X) : Y0 (evWhl t s) ρ KF X := by
  have go : ∀ (n : Nat) (ρ : List Sl), I n ρ → ∃ k r, whl t s k ρ = some r ∧ (match r with | (.ok a, ρ1) => KF a ρ1 | (.er c pl, ρ1) => X c pl ρ1) := by
    intro nn
    induction nn using Nat.strongRecOn with
    | _ n ih =>
      intro ρ h
      have z := st n ρ h
      unfold Y0 at z
      cases et : t ρ with
      | none => rw [et] at z; exact z.elim
      | some x =>
        obtain ⟨rx, ρ1⟩ := x
        rw [et] at z
        cases rx with
        | er c pl => exact ⟨1, (.er c pl, ρ1), by unfold whl bnd; rw [et], z⟩
        | ok b =>
          cases b with
          | false => exact ⟨1, (.ok .nx, ρ1), by unfold whl bnd; rw [et]; rfl, z⟩
          | true =>
            dsimp only at z
            rw [if_pos rfl] at z
            have st1 : ∀ k, whl t s (k + 1) ρ = (match s ρ1 with | some (.ok .nx, ρ1) => whl t s k ρ1 | some (.ok .ct, ρ1) => whl t s k ρ1 | some (.ok .bk, ρ1) => some (.ok .nx, ρ1) | r => r) := fun k => by
              conv => lhs; unfold whl bnd
              rw [et]
              rfl
            cases es : s ρ1 with
            | none => rw [es] at z; exact z.elim
            | some y =>
              obtain ⟨ry, ρ2⟩ := y
              rw [es] at z
              cases ry with
              | er c pl => exact ⟨1, (.er c pl, ρ2), by rw [st1, es], z⟩
              | ok f =>
                cases f with
                | nx =>
                  obtain ⟨k, lt, hk⟩ := z
                  obtain ⟨j, r, e, p⟩ := ih k lt ρ2 hk
                  exact ⟨j + 1, r, by rw [st1, es]; exact e, p⟩
                | ct =>
                  obtain ⟨k, lt, hk⟩ := z
                  obtain ⟨j, r, e, p⟩ := ih k lt ρ2 hk
                  exact ⟨j + 1, r, by rw [st1, es]; exact e, p⟩
                | bk => exact ⟨1, (.ok .nx, ρ2), by rw [st1, es], z⟩
                | rt v => exact ⟨1, (.ok (.rt v), ρ2), by rw [st1, es], z⟩
  obtain ⟨k, r, e, p⟩ := go n ρ h
  unfold Y0
  rw [evWhl_of e]
  obtain ⟨rx, ρ1⟩ := r
  cases rx <;> exact p
theorem Y0_itR1 {KI : List D → List Sl → Prop} : Y0 (itR1 m) ρ KI X = Y0 (dat m) ρ (fun d ρ1 => match d with | .int j => (-(2 ^ 62) ≤ j ∧ j < 2 ^ 62) ∧ KI (rngD 0 j.toNat) ρ1 | _ => False) X := by
  unfold itR1; rw [Y0_bnd]; congr 1; funext d ρ1
  cases d <;> try rfl
  dsimp only
  rw [Y0_if]
  split
  · rename_i h; simp only [h, true_and]; rfl
  · rename_i h; simp only [h, false_and]; rfl
theorem Y0_itR2 {KI : List D → List Sl → Prop} : Y0 (itR2 a b) ρ KI X = Y0 (dat a) ρ (fun d ρ1 => Y0 (dat b) ρ1 (fun d2 ρ2 => match d, d2 with | .int i, .int j => (-(2 ^ 62) ≤ i ∧ i < 2 ^ 62 ∧ -(2 ^ 62) ≤ j ∧ j < 2 ^ 62) ∧ KI (rngD i (j - i).toNat) ρ2 | _, _ => False) X) X := by
  unfold itR2; rw [Y0_bnd]; congr 1; funext d ρ1
  rw [Y0_bnd]; congr 1; funext d2 ρ2
  cases d <;> cases d2 <;> try rfl
  dsimp only
  rw [Y0_if]
  split
  · rename_i h; simp only [h, true_and]; rfl
  · rename_i h; simp only [h, false_and]; rfl
end
end PL
end
section
namespace PL
open PySem PySem.Spec PyProof.Rows L2
/-! ### the same, closed: simp stays out of what comes behind -/
structure Lck {α : Type} (K : α → List Sl → Prop) (X : XC) : Type where
@[irreducible] def Y {α : Type} (m : M α) (ρ : List Sl) (K : α → List Sl → Prop) (X : XC) (_ : Lck K X := ⟨⟩) : Prop := Y0 m ρ K X
theorem Y_eq {α : Type} {m : M α} {ρ : List Sl} {K : α → List Sl → Prop} {X : XC} {l : Lck K X} : Y m ρ K X l = Y0 m ρ K X := by unfold Y; rfl
section
variable {α β : Type} {ρ : List Sl} {X X' : XC}
theorem Y.mono {m : M α} {K K' : α → List Sl → Prop} (h : Y m ρ K X) (k : ∀ a ρ1, K a ρ1 → K' a ρ1) (x : ∀ c pl ρ1, X c pl ρ1 → X' c pl ρ1) : Y m ρ K' X' := by
  simp only [Y_eq] at *
  exact Y0.mono h k x
theorem Y.mk {m : M α} {K : α → List Sl → Prop} (h : Y m ρ K NX) : ∃ a ρ1, m ρ = some (.ok a, ρ1) ∧ K a ρ1 := by
  simp only [Y_eq] at *
  exact Y0.mk h
theorem Y.of {m : M α} {K : α → List Sl → Prop} {a : α} {ρ1 : List Sl} (e : m ρ = some (.ok a, ρ1)) (h : K a ρ1) : Y m ρ K X := by
  simp only [Y_eq] at *
  exact Y0.of e h
variable {K : α → List Sl → Prop}
theorem Y_pur {a : α} : Y (pur a) ρ K X = K a ρ := by
  simp only [Y_eq]
  exact Y0_pur
theorem Y_fai : Y (fai : M α) ρ K X = False := by
  simp only [Y_eq]
  exact Y0_fai
theorem Y_bnd {m : M β} {k : β → M α} : Y (bnd m k) ρ K X = Y m ρ (fun a ρ1 => Y (k a) ρ1 K X) X := by
  simp only [Y_eq]
  exact Y0_bnd
theorem Y_opt {o : Option α} : Y (opt o) ρ K X = ∃ a, o = some a ∧ K a ρ := by
  simp only [Y_eq]
  exact Y0_opt
theorem Y_noEr {m : M α} : Y (noEr m) ρ K X = Y m ρ K NX := by
  simp only [Y_eq]
  exact Y0_noEr
theorem Y_if {c : Prop} [Decidable c] {a b : M α} : Y (if c then a else b) ρ K X = if c then Y a ρ K X else Y b ρ K X := by
  simp only [Y_eq]
  exact Y0_if
end
section
variable {ρ : List Sl} {X : XC} {K : Rv → List Sl → Prop} {KD : D → List Sl → Prop} {KB : Bool → List Sl → Prop} {KF : Fl → List Sl → Prop} {m a b c : Ev} {s t : M Fl} {u v : M Bool} {i j n : Nat}
theorem Y_vD {d : D} : Y (vD d) ρ K X = K (.d d) ρ := by
  simp only [Y_eq]
  exact Y0_vD
theorem Y_evV : Y (evV i) ρ K X = match ρ[i]? with | some (.dat d) => K (.d d) ρ | _ => False := by
  simp only [Y_eq]
  exact Y0_evV
theorem Y_evF : Y (evF i) ρ K X = match ρ[i]? with | some (.dat d) => K (.d d) ρ | some (.cel .own c) => (match c.froz with | some d => K (.d d) (ρ.set i (.dat d)) | none => False) | _ => False := by
  simp only [Y_eq]
  exact Y0_evF
theorem Y_evM : Y (evM i) ρ K X = match ρ[i]? with | some (.dat d) => K (.d d) ρ | some (.cel .own c) => K (.c c) (ρ.set i .un) | _ => False := by
  simp only [Y_eq]
  exact Y0_evM
theorem Y_dat : Y (dat m) ρ KD X = Y m ρ (fun r ρ1 => match r with | .d d => KD d ρ1 | .c c => ∃ d, c.froz = some d ∧ KD d ρ1) X := by
  simp only [Y_eq]
  exact Y0_dat
theorem Y_tst : Y (tst m) ρ KB X = Y (dat m) ρ (fun d ρ1 => match d with | .bl b => KB b ρ1 | _ => False) X := by
  simp only [Y_eq]
  exact Y0_tst
theorem Y_ev2 {g : D → D → Option D} : Y (ev2 g a b) ρ K X = Y (dat a) ρ (fun x ρ1 => Y (dat b) ρ1 (fun y ρ2 => ∃ z, g x y = some z ∧ K (.d z) ρ2) X) X := by
  simp only [Y_eq]
  exact Y0_ev2
theorem Y_ev2c {g : D → D → Option CC} : Y (ev2c g a b) ρ K X = Y (dat a) ρ (fun x ρ1 => Y (dat b) ρ1 (fun y ρ2 => ∃ z, g x y = some z ∧ K (.c z) ρ2) X) X := by
  simp only [Y_eq]
  exact Y0_ev2c
theorem Y_ev1 {g : D → Option D} : Y (ev1 g a) ρ K X = Y (dat a) ρ (fun x ρ1 => ∃ z, g x = some z ∧ K (.d z) ρ1) X := by
  simp only [Y_eq]
  exact Y0_ev1
theorem Y_seq : Y (evSeq s t) ρ KF X = Y s ρ (fun f ρ1 => match f with | .nx => Y t ρ1 KF X | f => KF f ρ1) X := by
  simp only [Y_eq]
  exact Y0_seq
theorem Y_evIf : Y (evIf u s t) ρ KF X = Y u ρ (fun c ρ1 => if c = true then Y s ρ1 KF X else Y t ρ1 KF X) X := by
  simp only [Y_eq]
  exact Y0_evIf
theorem Y_tNo : Y (tNo u) ρ KB X = Y u ρ (fun c ρ1 => KB (!c) ρ1) X := by
  simp only [Y_eq]
  exact Y0_tNo
theorem Y_tAn : Y (tAn u v) ρ KB X = Y u ρ (fun c ρ1 => if c = true then Y v ρ1 KB X else KB false ρ1) X := by
  simp only [Y_eq]
  exact Y0_tAn
theorem Y_tOo : Y (tOo u v) ρ KB X = Y u ρ (fun c ρ1 => if c = true then KB true ρ1 else Y v ρ1 KB X) X := by
  simp only [Y_eq]
  exact Y0_tOo
theorem Y_vNo : Y (vNo m) ρ K X = Y (tst m) ρ (fun c ρ1 => K (.d (.bl (!c))) ρ1) X := by
  simp only [Y_eq]
  exact Y0_vNo
theorem Y_vAn : Y (vAn a b) ρ K X = Y (tst a) ρ (fun c ρ1 => if c = true then Y (dat b) ρ1 (fun d ρ2 => K (.d d) ρ2) X else K (.d (.bl false)) ρ1) X := by
  simp only [Y_eq]
  exact Y0_vAn
theorem Y_vOo : Y (vOo a b) ρ K X = Y (tst a) ρ (fun c ρ1 => if c = true then K (.d (.bl true)) ρ1 else Y (dat b) ρ1 (fun d ρ2 => K (.d d) ρ2) X) X := by
  simp only [Y_eq]
  exact Y0_vOo
theorem Y_vIf : Y (vIf u a b) ρ K X = Y u ρ (fun c ρ1 => if c = true then Y a ρ1 K X else Y b ρ1 K X) X := by
  simp only [Y_eq]
  exact Y0_vIf
theorem Y_ch2 {g g' : D → D → Option D} : Y (ch2 g g' a b c) ρ K X = Y (dat a) ρ (fun x ρ1 => Y (dat b) ρ1 (fun y ρ2 => ∃ z, g x y = some (.bl z) ∧ if z = true then Y (dat c) ρ2 (fun w ρ3 => ∃ z2, g' y w = some z2 ∧ K (.d z2) ρ3) X else K (.d (.bl false)) ρ2) X) X := by
  simp only [Y_eq]
  exact Y0_ch2
theorem Y_ch3 {g g' g'' : D → D → Option D} {d : Ev} : Y (ch3 g g' g'' a b c d) ρ KB X = Y (dat a) ρ (fun x ρ1 => Y (dat b) ρ1 (fun y ρ2 => ∃ z, g x y = some (.bl z) ∧ if z = true then Y (dat c) ρ2 (fun w ρ3 => ∃ z2, g' y w = some (.bl z2) ∧ if z2 = true then Y (dat d) ρ3 (fun q ρ4 => ∃ z3, g'' w q = some (.bl z3) ∧ KB z3 ρ4) X else KB false ρ3) X else KB false ρ2) X) X := by
  simp only [Y_eq]
  exact Y0_ch3
theorem Y_setD {d : D} : Y (setD i d) ρ KF X = ∃ s, ρ[i]? = some s ∧ canSet s = true ∧ KF .nx (ρ.set i (.dat d)) := by
  simp only [Y_eq]
  exact Y0_setD
theorem Y_setC {d : CC} : Y (PL.setC i d) ρ KF X = ∃ s, ρ[i]? = some s ∧ canSet s = true ∧ KF .nx (ρ.set i (.cel .own d)) := by
  simp only [Y_eq]
  exact Y0_setC
theorem Y_asg : Y (evAsg i m) ρ KF X = Y (dat m) ρ (fun d ρ1 => Y (setD i d) ρ1 KF X) X := by
  simp only [Y_eq]
  exact Y0_asg
theorem Y_asgC : Y (evAsgC i m) ρ KF X = Y m ρ (fun r ρ1 => match r with | .c c => Y (PL.setC i c) ρ1 KF X | .d _ => False) X := by
  simp only [Y_eq]
  exact Y0_asgC
theorem Y_ret : Y (evRet m) ρ KF X = Y m ρ (fun r ρ1 => KF (.rt r) ρ1) X := by
  simp only [Y_eq]
  exact Y0_ret
theorem Y_ex : Y (evEx m) ρ KF X = Y m ρ (fun _ ρ1 => KF .nx ρ1) X := by
  simp only [Y_eq]
  exact Y0_ex
theorem Y_nx : Y evNx ρ KF X = KF .nx ρ := by
  simp only [Y_eq]
  exact Y0_nx
theorem Y_look {α : Type} {ok : α → Bool} {m : M α} {K : α → List Sl → Prop} : Y (look j ok m) ρ K X = match ρ[j]? with | some (.cel _ (.lst xs)) => Y m (lkS j xs 0 ρ) (fun r _ => ok r = true ∧ K r ρ) NX | _ => False := by
  simp only [Y_eq]
  exact Y0_look
variable {KS : List D → List Sl → Prop} {KA : List Ar → List Sl → Prop} {es : List DE} {as : List AE}
theorem Y_ds0 : Y (evDs []) ρ KS X = KS [] ρ := by
  simp only [Y_eq]
  exact Y0_ds0
theorem Y_dsE : Y (evDs (.e m :: es)) ρ KS X = Y (dat m) ρ (fun d ρ1 => Y (evDs es) ρ1 (fun ds ρ2 => KS (d :: ds) ρ2) X) X := by
  simp only [Y_eq]
  exact Y0_dsE
theorem Y_dsS : Y (evDs (.s m :: es)) ρ KS X = Y (dat m) ρ (fun d ρ1 => ∃ xs, d.items = some xs ∧ Y (evDs es) ρ1 (fun ds ρ2 => KS (xs ++ ds) ρ2) X) X := by
  simp only [Y_eq]
  exact Y0_dsS
theorem Y_B {g : List D → Option D} : Y (evB g es) ρ K X = Y (evDs es) ρ (fun ds ρ1 => ∃ z, g ds = some z ∧ K (.d z) ρ1) X := by
  simp only [Y_eq]
  exact Y0_B
theorem Y_Bc {g : List D → Option CC} : Y (evBc g es) ρ K X = Y (evDs es) ρ (fun ds ρ1 => ∃ z, g ds = some z ∧ K (.c z) ρ1) X := by
  simp only [Y_eq]
  exact Y0_Bc
theorem Y_tup : Y (evTup es) ρ K X = Y (evDs es) ρ (fun ds ρ1 => ds.length ≤ 16777216 ∧ K (.d (.tup ds)) ρ1) X := by
  simp only [Y_eq]
  exact Y0_tup
theorem Y_lst : Y (evLst es) ρ K X = Y (evDs es) ρ (fun ds ρ1 => ds.length ≤ 16777216 ∧ K (.c (.lst ds)) ρ1) X := by
  simp only [Y_eq]
  exact Y0_lst
theorem Y_isL {P : Rv → List Sl → Prop} : Y (isL j) ρ P X = match ρ[j]? with | some (.cel _ (.lst _)) => P (.d .non) ρ | _ => False := by
  simp only [Y_eq]
  exact Y0_isL
theorem Y_modL {f : List D → Option (D × List D)} : Y (modL j f) ρ K X = match ρ[j]? with | some (.cel k (.lst xs)) => ∃ p, f xs = some p ∧ K (.d p.1) (ρ.set j (.cel k (.lst p.2))) | _ => False := by
  simp only [Y_eq]
  exact Y0_modL
theorem Y_bmL {f : List D → List D → Option (D × List D)} : Y (evBmL j f es) ρ K X = match ρ[j]? with
    | some (.cel _ (.lst _)) => Y (evDs es) ρ (fun ds ρ1 => match ρ1[j]? with | some (.cel k (.lst xs)) => ∃ p, f xs ds = some p ∧ K (.d p.1) (ρ1.set j (.cel k (.lst p.2))) | _ => False) X
    | _ => False := by
  simp only [Y_eq]
  exact Y0_bmL
theorem Y_ixL : Y (evIxL j m) ρ K X = match ρ[j]? with
    | some (.cel _ (.lst _)) => Y (dat m) ρ (fun d ρ1 => match ρ1[j]? with | some (.cel _ (.lst xs)) => (match d with | .int i => ∃ z, atI xs i = some z ∧ K (.d z) ρ1 | _ => False) | _ => False) X
    | _ => False := by
  simp only [Y_eq]
  exact Y0_ixL
theorem Y_setI : Y (evSetI j a b) ρ KF X = Y (dat b) ρ (fun d ρ1 => match ρ1[j]? with
    | some (.cel _ (.lst _)) => Y (dat a) ρ1 (fun i ρ2 => match i with
      | .int i => (match ρ2[j]? with | some (.cel k (.lst xs)) => ∃ n, ixN xs.length i = some n ∧ KF .nx (ρ2.set j (.cel k (.lst (xs.set n d)))) | _ => False)
      | _ => False) X
    | _ => False) X := by
  simp only [Y_eq]
  exact Y0_setI
theorem Y_as0 : Y (evAs []) ρ KA X = KA [] ρ := by
  simp only [Y_eq]
  exact Y0_as0
theorem Y_asE : Y (evAs (.e m :: as)) ρ KA X = Y (dat m) ρ (fun d ρ1 => Y (evAs as) ρ1 (fun ar ρ2 => KA (.d d :: ar) ρ2) X) X := by
  simp only [Y_eq]
  exact Y0_asE
theorem Y_asC : Y (evAs (.c j :: as)) ρ KA X = match ρ[j]? with | some (.cel _ _) => Y (evAs as) ρ (fun ar ρ2 => KA (.c j :: ar) ρ2) X | _ => False := by
  simp only [Y_eq]
  exact Y0_asC
theorem Y_callG {G : Fn} {ar : List Ar} : Y (callG n G ar) ρ K X = ∃ ss, argSl ρ ar = some ss ∧ (ar.length = n ∧ (celsOf ar).Nodup) ∧ Y G ss (fun r ss' => K r (back ρ ar ss')) (fun c pl ss' => X c pl (back ρ ar ss')) := by
  simp only [Y_eq]
  exact Y0_callG
theorem Y_call {G : Fn} {ds : List D} : Y (evCall n G as ds) ρ K X = Y (evAs as) ρ (fun ar ρ1 => Y (callG n G (ar ++ ds.map .d)) ρ1 K X) X := by
  simp only [Y_eq]
  exact Y0_call
theorem Y_call0 {G : Fn} {ds : List D} : Y (evCall0 n G as ds) ρ K X = Y (evAs as) ρ (fun ar ρ1 => Y (callG n G (ar ++ ds.map .d)) ρ1 K NX) X := by
  simp only [Y_eq]
  exact Y0_call0
theorem Y_callN {G : Fn} {c : CC} {ar : List Ar} : Y (callN n G c ar) ρ K X = Y (callG n G (.c ρ.length :: ar)) (ρ ++ [.cel .own c]) (fun r ρ1 => K r (ρ1.take ρ.length)) (fun c pl ρ1 => X c pl (ρ1.take ρ.length)) := by
  simp only [Y_eq]
  exact Y0_callN
theorem Y_CallN {G : Fn} {ds : List D} : Y (evCallN n G m as ds) ρ K X = Y m ρ (fun r ρ1 => match r with | .c c => Y (evAs as) ρ1 (fun ar ρ2 => Y (callN n G c (ar ++ ds.map .d)) ρ2 K X) X | .d _ => False) X := by
  simp only [Y_eq]
  exact Y0_CallN
theorem Y_CallN0 {G : Fn} {ds : List D} : Y (evCallN0 n G m as ds) ρ K X = Y m ρ (fun r ρ1 => match r with | .c c => Y (evAs as) ρ1 (fun ar ρ2 => Y (callN n G c (ar ++ ds.map .d)) ρ2 K NX) X | .d _ => False) X := by
  simp only [Y_eq]
  exact Y0_CallN0
theorem Y_CallC {G : Fn} {c : Cl} : Y (evCallC n G c as) ρ K X = Y (evAs as) ρ (fun ar ρ1 => Y (callG n G (.d (.cl c) :: ar)) ρ1 K NX) X := by
  simp only [Y_eq]
  exact Y0_CallC
theorem Y_CallCS {G : Fn} {c : Cl} : Y (evCallCS n G c as) ρ K X = Y (evAs as) ρ (fun ar ρ1 => Y (callG n G (.d (.cl c) :: ar)) ρ1 K X) X := by
  simp only [Y_eq]
  exact Y0_CallCS
theorem Y_mkL {G : Fn} {c : Cl} : Y (evMkL i n G c as) ρ K X = match ρ[i]? with | some (.dat (.cl c')) => c' = c ∧ Y (evMk n G c as []) ρ K X | _ => False := by
  simp only [Y_eq]
  exact Y0_mkL
theorem Y_BestN {f : Int → Int → Int} {es : List DE} : Y (evBestN f es) ρ K X = Y (evDs es) ρ (fun ds ρ1 => ∃ z, gBestN f ds = some z ∧ K (.d z) ρ1) X := by
  simp only [Y_eq]
  exact Y0_BestN
theorem Y_own2 {G : Fn} {c : Cl} : Y (evOwn2 n G c a b) ρ K X = Y (dat a) ρ (fun d ρ1 => match d with
    | .obj c' xs => c' = c ∧ Y (dat b) ρ1 (fun d2 ρ2 => match d2 with | .obj c2 ys => c2 = c ∧ Y (callG n G [.d (.obj c xs), .d (.obj c ys)]) ρ2 K NX | _ => False) X
    | _ => False) X := by
  simp only [Y_eq]
  exact Y0_own2
theorem Y_st {k : StK} : Y (evSt k m) ρ K X = Y (dat m) ρ (fun d ρ1 => match d with | .tup xs => K (.d (.tup (k.ap xs))) ρ1 | _ => False) X := by
  simp only [Y_eq]
  exact Y0_st
theorem Y_ownIn {G : Fn} {c : Cl} : Y (evOwnIn n G c a b) ρ K X = Y (dat a) ρ (fun x ρ1 => Y (dat b) ρ1 (fun d ρ2 => match d with
    | .obj c' xs => c' = c ∧ Y (tst (noEr (callG n G [.d (.obj c xs), .d x]))) ρ2 (fun z ρ3 => K (.d (.bl z)) ρ3) X
    | _ => False) X) X := by
  simp only [Y_eq]
  exact Y0_ownIn
theorem Y_ownNin {G : Fn} {c : Cl} : Y (evOwnNin n G c a b) ρ K X = Y (dat a) ρ (fun x ρ1 => Y (dat b) ρ1 (fun d ρ2 => match d with
    | .obj c' xs => c' = c ∧ Y (tst (noEr (callG n G [.d (.obj c xs), .d x]))) ρ2 (fun z ρ3 => K (.d (.bl (!z))) ρ3) X
    | _ => False) X) X := by
  simp only [Y_eq]
  exact Y0_ownNin
theorem Y_callV {G : Fn} {ds : List D} : Y (callV n G ds) ρ K X = ((n ≤ ds.length ∧ ds.length ≤ 1000000) ∧ Y (callG (n + 1) G ((ds.take n).map .d ++ [.d (.tup (ds.drop n))])) ρ K X) := by
  simp only [Y_eq]
  exact Y0_callV
theorem Y_CallV {G : Fn} : Y (evCallV n G as) ρ K X = Y (evAs as) ρ (fun ar ρ1 => ∃ ds, datas ar = some ds ∧ Y (callV n G ds) ρ1 K X) X := by
  simp only [Y_eq]
  exact Y0_CallV
theorem Y_CallV0 {G : Fn} : Y (evCallV0 n G as) ρ K X = Y (evAs as) ρ (fun ar ρ1 => ∃ ds, datas ar = some ds ∧ Y (callV n G ds) ρ1 K NX) X := by
  simp only [Y_eq]
  exact Y0_CallV0
theorem Y_CallVS {G : Fn} : Y (evCallVS n G m) ρ K X = Y (dat m) ρ (fun d ρ1 => ∃ ds, d.items = some ds ∧ Y (callV n G ds) ρ1 K X) X := by
  simp only [Y_eq]
  exact Y0_CallVS
theorem Y_mkG {G : Fn} {c : Cl} {ar : List Ar} : Y (mkG n G c ar) ρ K X = Y (callG n G (.c ρ.length :: ar)) (ρ ++ [.cel .own (.obj c [])]) (fun r ρ1 => match r, ρ1[ρ.length]? with | .d .non, some (.cel .own c') => K (.c c') (ρ1.take ρ.length) | _, _ => False) (fun c pl ρ1 => X c pl (ρ1.take ρ.length)) := by
  simp only [Y_eq]
  exact Y0_mkG
theorem Y_mk {G : Fn} {c : Cl} {ds : List D} : Y (evMk n G c as ds) ρ K X = Y (evAs as) ρ (fun ar ρ1 => Y (mkG n G c (ar ++ ds.map .d)) ρ1 K X) X := by
  simp only [Y_eq]
  exact Y0_mk
theorem Y_mk0 {G : Fn} {c : Cl} {ds : List D} : Y (evMk0 n G c as ds) ρ K X = Y (evAs as) ρ (fun ar ρ1 => Y (mkG n G c (ar ++ ds.map .d)) ρ1 K NX) X := by
  simp only [Y_eq]
  exact Y0_mk0
theorem Y_meth {G : Fn} {c : Cl} : Y (evMeth n G c m as) ρ K X = Y (dat m) ρ (fun d ρ1 => match d with | .obj c' xs => c' = c ∧ Y (evAs as) ρ1 (fun ar ρ2 => Y (callG n G (.d (.obj c' xs) :: ar)) ρ2 K NX) X | _ => False) X := by
  simp only [Y_eq]
  exact Y0_meth
theorem Y_methS {G : Fn} {c : Cl} : Y (evMethS n G c m as) ρ K X = Y (dat m) ρ (fun d ρ1 => match d with | .obj c' xs => c' = c ∧ Y (evAs as) ρ1 (fun ar ρ2 => Y (callG n G (.d (.obj c' xs) :: ar)) ρ2 K X) X | _ => False) X := by
  simp only [Y_eq]
  exact Y0_methS
theorem Y_runB {k : Nat} {ss : List Sl} : Y (runB k s) ss K X = Y s (ss ++ List.replicate k .un) (fun f ρ => match f with | .nx => K (.d .non) (outs ss ρ) | .rt r => K r (outs ss ρ) | _ => False) (fun c pl ρ => X c pl (outs ss ρ)) := by
  simp only [Y_eq]
  exact Y0_runB
theorem Y_run0 {k : Nat} {ss : List Sl} : Y (run0 k s) ss K X = Y s (ss ++ List.replicate k .un) (fun f ρ => match f with | .nx => K (.d .non) (outs ss ρ) | .rt r => K r (outs ss ρ) | _ => False) NX := by
  simp only [Y_eq]
  exact Y0_run0
theorem Y_raise {c : Cl} : Y (evRaise c) ρ KF X = X c none ρ := by
  simp only [Y_eq]
  exact Y0_raise
theorem Y_raiseP {c : Cl} : Y (evRaiseP c m) ρ KF X = Y (dat m) ρ (fun d ρ1 => fmtD d = true ∧ X c (some d) ρ1) X := by
  simp only [Y_eq]
  exact Y0_raiseP
theorem Y_raise1 {c : Cl} : Y (evRaise1 c m) ρ KF X = Y m ρ (fun _ ρ1 => X c none ρ1) X := by
  simp only [Y_eq]
  exact Y0_raise1
theorem Y_for {it : M (List D)} {tg : Tg} : Y (evFor it tg s) ρ KF X = Y it ρ (fun xs ρ1 => Y (loop tg s xs) ρ1 KF X) X := by
  simp only [Y_eq]
  exact Y0_for
theorem Y_isi {tbl : List (TyN × Bool)} : Y (evIsi tbl m) ρ K X = Y (dat m) ρ (fun d ρ1 => ∃ b, (d.tyN.bind fun t => tbl.lookup t) = some b ∧ K (.d (.bl b)) ρ1) X := by
  simp only [Y_eq]
  exact Y0_isi
theorem Y_tTr : Y (tTr m) ρ KB X = Y (dat m) ρ (fun d ρ1 => ∃ b, d.truth = some b ∧ KB b ρ1) X := by
  simp only [Y_eq]
  exact Y0_tTr
theorem Y_fldS {c : Cl} {f : Str} : Y (evFldS c j f m) ρ KF X = Y (dat m) ρ (fun d ρ1 => match ρ1[j]? with | some (.cel k (.obj c' kvs)) => (c' = c ∧ kvs.length < 1000) ∧ KF .nx (ρ1.set j (.cel k (.obj c' (putD f d kvs)))) | _ => False) X := by
  simp only [Y_eq]
  exact Y0_fldS
theorem Y_cut {J : List Sl → Prop} (h : Y s ρ (fun f ρ1 => f = .nx ∧ J ρ1) X) (k : ∀ ρ1, J ρ1 → Y t ρ1 KF X) : Y (evSeq s t) ρ KF X := by
  simp only [Y_eq] at *
  exact Y0_cut h k
theorem Y_loop {tg : Tg} {I : List D → List Sl → Prop} : ∀ {xs : List D} {ρ : List Sl}, I xs ρ → (∀ x r ρ, I (x :: r) ρ → Y (asgT tg x) ρ (fun f ρ1 => f = .nx ∧ Y s ρ1 (fun f ρ2 => match f with | .nx => I r ρ2 | .ct => I r ρ2 | .bk => KF .nx ρ2 | .rt v => KF (.rt v) ρ2) X) NX) → (∀ ρ, I [] ρ → KF .nx ρ) → Y (loop tg s xs) ρ KF X:= fun {xs ρ} h st e => by simp only [Y_eq] at *; exact Y0_loop h st e
theorem Y_asgT {tg : Tg} : Y (evAsgT tg m) ρ KF X = Y (dat m) ρ (fun d ρ1 => Y (asgT tg d) ρ1 (fun f ρ2 => f = .nx ∧ KF .nx ρ2) NX) X := by
  simp only [Y_eq]
  exact Y0_asgT
theorem Y_asgTt {ts : List Tg} {xs : List D} : Y (asgT (.t ts) (.tup xs)) ρ KF X = Y (asgTs ts xs) ρ KF X := by
  simp only [Y_eq]
  exact Y0_asgTt
theorem Y_asgTs0 : Y (asgTs [] []) ρ KF X = KF .nx ρ := by
  simp only [Y_eq]
  exact Y0_asgTs0
theorem Y_asgTsC {t : Tg} {ts : List Tg} {x : D} {xs : List D} : Y (asgTs (t :: ts) (x :: xs)) ρ KF X = Y (evSeq (asgT t x) (asgTs ts xs)) ρ KF X := by
  simp only [Y_eq]
  exact Y0_asgTsC
theorem Y_part0 {KO : Option Int → List Sl → Prop} : Y (dPart none) ρ KO X = KO none ρ := by
  simp only [Y_eq]
  exact Y0_part0
theorem Y_partS {KO : Option Int → List Sl → Prop} : Y (dPart (some m)) ρ KO X = Y (dat m) ρ (fun d ρ1 => match d with | .int i => KO (some i) ρ1 | _ => False) X := by
  simp only [Y_eq]
  exact Y0_partS
theorem Y_sl {l u : Option Ev} : Y (evSl m l u) ρ K X = Y (dat m) ρ (fun d ρ1 => Y (dPart l) ρ1 (fun lo ρ2 => Y (dPart u) ρ2 (fun hi ρ3 => match d with
    | .lst xs => K (.c (.lst (cut xs lo hi))) ρ3
    | .sq xs => K (.c (.lst (cut xs lo hi))) ρ3
    | .tup xs => K (.d (.tup (cut xs lo hi))) ρ3
    | .str z => z.length ≤ 16777216 ∧ K (.d (.str (cutS z lo hi))) ρ3
    | _ => False) X) X) X := by
  simp only [Y_eq]
  exact Y0_sl
theorem Y_rev : Y (evRev m) ρ K X = Y (dat m) ρ (fun d ρ1 => ∃ xs, d.litems = some xs ∧ K (.c (.lst xs.reverse)) ρ1) X := by
  simp only [Y_eq]
  exact Y0_rev
theorem Y_vNoT : Y (vNoT m) ρ K X = Y (dat m) ρ (fun d ρ1 => ∃ b, d.truth = some b ∧ K (.d (.bl (!b))) ρ1) X := by
  simp only [Y_eq]
  exact Y0_vNoT
theorem Y_maxD {es : List DE} : Y (evMaxD es m) ρ K X = Y (evDs es) ρ (fun ds ρ1 => Y (dat m) ρ1 (fun d ρ2 => match d with | .int n => ∃ z, gMaxD n ds = some z ∧ K (.d z) ρ2 | _ => False) X) X := by
  simp only [Y_eq]
  exact Y0_maxD
theorem Y_itO {c : Cl} {KI : List D → List Sl → Prop} : Y (itO c i m) ρ KI X = Y (dat m) ρ (fun d ρ1 => match d with | .obj c' xs => c' = c ∧ (match xs[i]? with | some (.tup ys) => KI ys ρ1 | _ => False) | _ => False) X := by
  simp only [Y_eq]
  exact Y0_itO
theorem Y_lc {vs : List Nat} {it : M (List D)} {tg : Tg} {e : Ev} : Y (evLc vs it tg u e) ρ K X = Y it ρ (fun xs ρ1 => okOwn ρ1 vs = true ∧ Y (lcGo vs tg u e xs []) (wipeR ρ1 vs) (fun acc ρ2 => K (.c (.lst acc)) (restR ρ1 ρ2 vs)) NX) X := by
  simp only [Y_eq]
  exact Y0_lc
theorem Y_lcGo {vs : List Nat} {tg : Tg} {e : Ev} {f : D → Option D} {ρ0 : List Sl} {KS : List D → List Sl → Prop} {P : D → Prop} (st : ∀ (x : D) (acc : List D), P x → acc.length < 16777216 → Y (asgT tg x) ρ0 (fun g ρ1 => g = .nx ∧ Y (noEr u) ρ1 (fun b ρ2 => if b = true then Y (dat (noEr e)) ρ2 (fun d ρ3 => f x = some d ∧ wipeR ρ3 vs = ρ0) NX else f x = none ∧ wipeR ρ2 vs = ρ0) NX) NX) :
    ∀ (xs acc : List D), (∀ x ∈ xs, P x) → acc.length + xs.length ≤ 16777216 → KS (acc ++ xs.filterMap f) ρ0 → Y (lcGo vs tg u e xs acc) ρ0 KS X:= fun xs acc hp hl h => by simp only [Y_eq] at *; exact Y0_lcGo st xs acc hp hl h
theorem Y_lcI {vs : List Nat} {tg : Tg} {e : Ev} {KS : List D → List Sl → Prop} {I : List D → List D → List Sl → Prop} {xs acc : List D} (h : I xs acc ρ)
    (st : ∀ (x : D) (r acc : List D) (ρ : List Sl), I (x :: r) acc ρ → acc.length < 16777216 ∧ Y (asgT tg x) ρ (fun g ρ1 => g = .nx ∧ Y (noEr u) ρ1 (fun b ρ2 => if b = true then Y (dat (noEr e)) ρ2 (fun d ρ3 => I r (acc ++ [d]) (wipeR ρ3 vs)) NX else I r acc (wipeR ρ2 vs)) NX) NX)
    (fin : ∀ (acc : List D) (ρ : List Sl), I [] acc ρ → KS acc ρ) : Y (lcGo vs tg u e xs acc) ρ KS X := by
  simp only [Y_eq] at *
  exact Y0_lcI h st fin
theorem Y_lc2 {vs vs1 : List Nat} {it it1 : M (List D)} {tg tg1 : Tg} {v : M Bool} {e : Ev} : Y (evLc2 vs it tg u it1 vs1 tg1 v e) ρ K X = Y it ρ (fun xs ρ1 => okOwn ρ1 vs = true ∧ Y (lcGo2 vs tg u it1 vs1 tg1 v e xs []) (wipeR ρ1 vs) (fun acc ρ2 => K (.c (.lst acc)) (restR ρ1 ρ2 vs)) NX) X := by
  simp only [Y_eq]
  exact Y0_lc2
theorem Y_lcGo2 {vs vs1 : List Nat} {it1 : M (List D)} {tg tg1 : Tg} {v : M Bool} {e : Ev} {f : D → List D} {ρ0 : List Sl} {KS : List D → List Sl → Prop} {P : D → Prop} (st : ∀ (x : D) (acc : List D), P x → acc.length + (f x).length ≤ 16777216 → Y (asgT tg x) ρ0 (fun g ρ1 => g = .nx ∧ Y (noEr u) ρ1 (fun b ρ2 => if b = true then Y (noEr it1) ρ2 (fun ys ρ3 => Y (lcGo vs1 tg1 v e ys acc) (wipeR ρ3 vs1) (fun acc' ρ4 => acc' = acc ++ f x ∧ wipeR ρ4 vs = ρ0) NX) NX else f x = [] ∧ wipeR ρ2 vs = ρ0) NX) NX) :
    ∀ (xs acc : List D), (∀ x ∈ xs, P x) → acc.length + (xs.flatMap f).length ≤ 16777216 → KS (acc ++ xs.flatMap f) ρ0 → Y (lcGo2 vs tg u it1 vs1 tg1 v e xs acc) ρ0 KS X:= fun xs acc hp hl h => by simp only [Y_eq] at *; exact Y0_lcGo2 st xs acc hp hl h
theorem Y.okE {α : Type} {m : M α} {ρ ρ1 : List Sl} {a : α} {K : α → List Sl → Prop} {X : XC} (e : m ρ = some (.ok a, ρ1)) : Y m ρ K X = K a ρ1 := by
  simp only [Y_eq] at *
  exact Y0.okE e
theorem Y.erE {α : Type} {m : M α} {ρ ρ1 : List Sl} {c : Cl} {pl : Option D} {K : α → List Sl → Prop} {X : XC} (e : m ρ = some (.er c pl, ρ1)) : Y m ρ K X = X c pl ρ1 := by
  simp only [Y_eq] at *
  exact Y0.erE e
theorem Y.noE {α : Type} {m : M α} {ρ : List Sl} {K : α → List Sl → Prop} {X : XC} (e : m ρ = none) : Y m ρ K X = False := by
  simp only [Y_eq] at *
  exact Y0.noE e
theorem Y.cg {α : Type} {m m' : M α} {ρ ρ' : List Sl} {K : α → List Sl → Prop} {X : XC} (e : m ρ = m' ρ') : Y m ρ K X = Y m' ρ' K X := by
  simp only [Y_eq] at *
  exact Y0.cg e
theorem Y_suiteO : Y (suiteO t) ρ KF X = (noExn ρ = true ∧ Y t ρ (fun f ρ2 => noExn ρ2 = true ∧ KF f ρ2) NX) := by
  simp only [Y_eq]
  exact Y0_suiteO
theorem Y_suiteA {c : Cl} {pl : Option D} : Y (suiteA i c pl t) ρ KF X = (noExn ρ = true ∧ ∃ z, ρ[i]? = some z ∧ canSet z = true ∧ Y t (ρ.set i (.exn c pl)) (fun f ρ2 => noExn (ρ2.set i .un) = true ∧ KF f (ρ2.set i .un)) NX) := by
  simp only [Y_eq]
  exact Y0_suiteA
theorem Y_tryO {cat : List (Cl × Bool)} : Y (evTryO s cat t) ρ KF X = Y s ρ KF (fun c pl ρ1 => match cat.lookup c with | some true => noExn ρ1 = true ∧ Y t ρ1 (fun f ρ2 => noExn ρ2 = true ∧ KF f ρ2) NX | some false => X c pl ρ1 | none => False) := by
  simp only [Y_eq]
  exact Y0_tryO
theorem Y_tryA {cat : List (Cl × Bool)} : Y (evTryA i s cat t) ρ KF X = Y s ρ KF (fun c pl ρ1 => match cat.lookup c with
    | some true => noExn ρ1 = true ∧ ∃ z, ρ1[i]? = some z ∧ canSet z = true ∧ Y t (ρ1.set i (.exn c pl)) (fun f ρ2 => noExn (ρ2.set i .un) = true ∧ KF f (ρ2.set i .un)) NX
    | some false => X c pl ρ1
    | none => False) := by
  simp only [Y_eq]
  exact Y0_tryA
theorem Y_tryM {cs : List Clp} : Y (evTryM s cs) ρ KF X = Y s ρ KF (fun c pl ρ1 => Y (pick cs c pl) ρ1 KF X) := by
  simp only [Y_eq]
  exact Y0_tryM
theorem Y_pick0 {c : Cl} {pl : Option D} : Y (pick [] c pl) ρ KF X = X c pl ρ := by
  simp only [Y_eq]
  exact Y0_pick0
theorem Y_pickC {c : Cl} {pl : Option D} {cat : List (Cl × Bool)} {cs : List Clp} : Y (pick ((i, cat, t) :: cs) c pl) ρ KF X = match cat.lookup c with
    | some true => Y (suiteA i c pl t) ρ KF X
    | some false => Y (pick cs c pl) ρ KF X
    | none => False := by
  simp only [Y_eq]
  exact Y0_pickC
theorem Y_isE {tbl : List (TyN × Bool)} : Y (evIsE i tbl) ρ K X = match ρ[i]? with | some (.exn c _) => ∃ b, tbl.lookup (.o c) = some b ∧ K (.d (.bl b)) ρ | _ => False := by
  simp only [Y_eq]
  exact Y0_isE
theorem Y_js0 {acc : Str} {KZ : Str → List Sl → Prop} : Y (evJs [] acc) ρ KZ X = KZ acc ρ := by
  simp only [Y_eq]
  exact Y0_js0
theorem Y_jsC {ms : List Ev} {acc : Str} {KZ : Str → List Sl → Prop} : Y (evJs (m :: ms) acc) ρ KZ X = Y (dat m) ρ (fun d ρ1 => match d with | .str y => (acc ++ y).length ≤ 16777216 ∧ Y (evJs ms (acc ++ y)) ρ1 KZ X | _ => False) X := by
  simp only [Y_eq]
  exact Y0_jsC
theorem Y_jn {ms : List Ev} : Y (evJn ms) ρ K X = Y (evJs ms Str.empty) ρ (fun s ρ1 => K (.d (.str s)) ρ1) X := by
  simp only [Y_eq]
  exact Y0_jn
theorem Y_isK {P : Rv → List Sl → Prop} : Y (isK j) ρ P X = match ρ[j]? with | some (.cel _ (.dK _)) => P (.d .non) ρ | _ => False := by
  simp only [Y_eq]
  exact Y0_isK
theorem Y_getK {f : List (Key × D) → Option D} : Y (getK j f) ρ K X = match ρ[j]? with | some (.cel _ (.dK kvs)) => ∃ d, f kvs = some d ∧ K (.d d) ρ | _ => False := by
  simp only [Y_eq]
  exact Y0_getK
theorem Y_dget : Y (evDGet j m) ρ K X = match ρ[j]? with | some (.cel _ (.dK _)) => Y (dat m) ρ (fun k ρ1 => match ρ1[j]? with | some (.cel _ (.dK kvs)) => ∃ d, k.key.bind (dval kvs) = some d ∧ K (.d d) ρ1 | _ => False) X | _ => False := by
  simp only [Y_eq]
  exact Y0_dget
theorem Y_dget2 : Y (evDGet2 j m a) ρ K X = match ρ[j]? with | some (.cel _ (.dK _)) => Y (dat m) ρ (fun k ρ1 => Y (dat a) ρ1 (fun d ρ2 => match ρ2[j]? with | some (.cel _ (.dK kvs)) => ∃ z, k.key.map (fun k => (dval kvs k).getD d) = some z ∧ K (.d z) ρ2 | _ => False) X) X | _ => False := by
  simp only [Y_eq]
  exact Y0_dget2
theorem Y_dput : Y (evDPut j m a) ρ KF X = Y (dat a) ρ (fun d ρ1 => match ρ1[j]? with | some (.cel _ (.dK _)) => Y (dat m) ρ1 (fun k ρ2 => (match ρ2[j]? with | some (.cel c (.dK kvs)) => ∃ k', k.key = some k' ∧ kvs.length < 16777216 ∧ KF .nx (ρ2.set j (.cel c (.dK (dput kvs k' d)))) | _ => False)) X | _ => False) X := by
  simp only [Y_eq]
  exact Y0_dput
theorem Y_sortDR : Y (evSortDR j) ρ K X = match ρ[j]? with | some (.cel _ (.dK kvs)) => ∃ ks, keysI kvs = some ks ∧ K (.c (.lst ((down ks).map D.int))) ρ | _ => False := by
  simp only [Y_eq]
  exact Y0_sortDR
theorem Y_asgN {d : D} : Y (asgT (.n i) d) ρ KF X = Y (setD i d) ρ KF X := by
  simp only [Y_eq]
  exact Y0_asgN
theorem Y_itL {KI : List D → List Sl → Prop} : Y (itL m) ρ KI X = Y (dat m) ρ (fun d ρ1 => ∃ xs, d.litems = some xs ∧ KI xs ρ1) X := by
  simp only [Y_eq]
  exact Y0_itL
theorem Y_itT {KI : List D → List Sl → Prop} : Y (itT m) ρ KI X = Y (dat m) ρ (fun d ρ1 => ∃ xs, d.titems = some xs ∧ KI xs ρ1) X := by
  simp only [Y_eq]
  exact Y0_itT
theorem Y_itET {KI : List D → List Sl → Prop} : Y (itET m) ρ KI X = Y (dat m) ρ (fun d ρ1 => match d with | .tup xs => KI (enumD xs) ρ1 | _ => False) X := by
  simp only [Y_eq]
  exact Y0_itET
theorem Y_itEL {KI : List D → List Sl → Prop} : Y (itEL m) ρ KI X = Y (dat m) ρ (fun d ρ1 => match d with | .lst xs => KI (enumD xs) ρ1 | .sq xs => KI (enumD xs) ρ1 | _ => False) X := by
  simp only [Y_eq]
  exact Y0_itEL
theorem Y_cnt {o e : Ev} : Y (evCnt o e) ρ K X = Y (dat o) ρ (fun x ρ1 => match x with | .str a => Y (dat e) ρ1 (fun y ρ2 => match y with | .str b => K (.d (.int (Txt.count a b))) ρ2 | _ => False) X | _ => False) X := by
  simp only [Y_eq]
  exact Y0_cnt
theorem Y_itZ {KI : List D → List Sl → Prop} : Y (itZ a b) ρ KI X = Y (dat a) ρ (fun d ρ1 => Y (dat b) ρ1 (fun d2 ρ2 => match d, d2 with | .lst xs, .lst ys => KI (zipD xs ys) ρ2 | .tup xs, .tup ys => KI (zipD xs ys) ρ2 | _, _ => False) X) X := by
  simp only [Y_eq]
  exact Y0_itZ
theorem Y_itR3 {KI : List D → List Sl → Prop} {c : Ev} : Y (itR3 a b c) ρ KI X = Y (dat a) ρ (fun d ρ1 => Y (dat b) ρ1 (fun d2 ρ2 => Y (dat c) ρ2 (fun d3 ρ3 => match d, d2, d3 with | .int i, .int j, .int k => stepOk i j k ∧ KI (rng3D i k (Builtin.Range.rangeSize i j k).toNat) ρ3 | _, _, _ => False) X) X) X := by
  simp only [Y_eq]
  exact Y0_itR3
theorem Y_itS {KI : List D → List Sl → Prop} : Y (itS m) ρ KI X = Y (dat m) ρ (fun d ρ1 => ∃ xs, d.sitems = some xs ∧ KI xs ρ1) X := by
  simp only [Y_eq]
  exact Y0_itS
theorem Y_join : Y (evJoin a b) ρ K X = Y (dat a) ρ (fun x ρ1 => match x with | .str z => Y (dat b) ρ1 (fun d ρ2 => ∃ r, dJoin z d = some r ∧ K (.d r) ρ2) X | _ => False) X := by
  simp only [Y_eq]
  exact Y0_join
theorem Y_xf {c : Cl} : Y (evXf i c) ρ K X = match ρ[i]? with | some (.exn c' (some d)) => c' = c ∧ K (.d d) ρ | _ => False := by
  simp only [Y_eq]
  exact Y0_xf
theorem Y_whl {t : M Bool} {I : Nat → List Sl → Prop} {n : Nat} (h : I n ρ) (st : ∀ n ρ, I n ρ → Y t ρ (fun c ρ1 => if c = true then Y s ρ1 (fun f ρ2 => match f with | .nx => ∃ k, k < n ∧ I k ρ2 | .ct => ∃ k, k < n ∧ I k ρ2 | .bk => KF .nx ρ2 | .rt v => KF (.rt v) ρ2) X else KF .nx ρ1) X) : Y (evWhl t s) ρ KF X := by
  simp only [Y_eq] at *
  exact Y0_whl h st
theorem Y_itR1 {KI : List D → List Sl → Prop} : Y (itR1 m) ρ KI X = Y (dat m) ρ (fun d ρ1 => match d with | .int j => (-(2 ^ 62) ≤ j ∧ j < 2 ^ 62) ∧ KI (rngD 0 j.toNat) ρ1 | _ => False) X := by
  simp only [Y_eq]
  exact Y0_itR1
theorem Y_itR2 {KI : List D → List Sl → Prop} : Y (itR2 a b) ρ KI X = Y (dat a) ρ (fun d ρ1 => Y (dat b) ρ1 (fun d2 ρ2 => match d, d2 with | .int i, .int j => (-(2 ^ 62) ≤ i ∧ i < 2 ^ 62 ∧ -(2 ^ 62) ≤ j ∧ j < 2 ^ 62) ∧ KI (rngD i (j - i).toNat) ρ2 | _, _ => False) X) X := by
  simp only [Y_eq]
  exact Y0_itR2
end
end PL
end
section
namespace PL
open PySem PySem.Spec PyProof.Rows L2
theorem pys_ints : ∀ xs : List Int, D.pys (xs.map D.int) = some (xs.map PyData.int)
  | [] => rfl
  | x :: xs => by
    have := pys_ints xs
    rw [List.map_cons, D.pys, this]
    rfl
theorem lay_ints : ∀ xs : List Int, PyData.canLayAll0 (xs.map PyData.int) = true
  | [] => rfl
  | x :: xs => by
    have := lay_ints xs
    rw [List.map_cons, PyData.canLayAll0, this]
    rfl
theorem dep_ints : ∀ xs : List Int, PyData.depthAll (xs.map PyData.int) = 0
  | [] => rfl
  | x :: xs => by
    have := dep_ints xs
    rw [List.map_cons, PyData.depthAll, this]
    rfl
theorem shp_ints (xs : List Int) : SeqAt.shaped (.list (xs.map PyData.int)) = true := by
  have h1 : PyData.canLay0 (.list (xs.map PyData.int)) = true := by rw [PyData.canLay0]; exact lay_ints xs
  have h2 : PyData.depth (.list (xs.map PyData.int)) = 1 := by rw [PyData.depth, dep_ints]
  unfold SeqAt.shaped
  rw [h1, h2]
  rfl
theorem eqv_ints : ∀ xs ys : List Int, PyData.eqvAll (xs.map PyData.int) (ys.map PyData.int) = decide (xs = ys)
  | [], [] => rfl
  | [], _ :: _ => rfl
  | _ :: _, [] => rfl
  | x :: xs, y :: ys => by
    have := eqv_ints xs ys
    rw [List.map_cons, List.map_cons, PyData.eqvAll, this]
    show (x == y && decide (xs = ys)) = _
    (by_cases h1 : x = y <;> by_cases h2 : xs = ys <;> simp [h1, h2])
theorem eqL_ints (xs ys : List Int) : D.eq? (.lst (xs.map D.int)) (.lst (ys.map D.int)) = some (decide (xs = ys)) := by
  have e1 : D.py (.lst (xs.map D.int)) = some (.list (xs.map PyData.int)) := by rw [D.py, pys_ints]; rfl
  have e2 : D.py (.lst (ys.map D.int)) = some (.list (ys.map PyData.int)) := by rw [D.py, pys_ints]; rfl
  have h1 := shp_ints xs
  have h2 := shp_ints ys
  have h3 : PyData.eqv (.list (xs.map PyData.int)) (.list (ys.map PyData.int)) = decide (xs = ys) := by rw [PyData.eqv]; exact eqv_ints xs ys
  show (match D.py (.lst (xs.map D.int)), D.py (.lst (ys.map D.int)) with
    | some x, some y => if SeqAt.shaped x && SeqAt.shaped y then some (PyData.eqv x y) else none
    | _, _ => none) = _
  rw [e1, e2]
  simp [h1, h2, h3]
theorem neL_ints (xs ys : List Int) : dNe (.lst (xs.map D.int)) (.lst (ys.map D.int)) = some (.bl (!decide (xs = ys))) := by
  unfold dNe
  rw [eqL_ints]
  rfl
theorem in_ints (x : Int) (xs : List Int) : dIn (.int x) (.lst (xs.map D.int)) = some (.bl (decide (x ∈ xs))) := by
  unfold dIn dInB
  simp only [D.items, Option.bind_some, D.ints_map, Option.map_some]
  congr 2
  by_cases h : x ∈ xs <;> simp [h]
theorem qe_ii {i j : Int} : D.eq? (.int i) (.int j) = some (decide (i = j)) := id rfl
theorem qe_bb {i j : Bool} : D.eq? (.bl i) (.bl j) = some (i == j) := id rfl
theorem qe_ss {i j : Str} : D.eq? (.str i) (.str j) = some (decide (i = j)) := id rfl
theorem qe_nn : D.eq? .non .non = some true := id rfl
theorem qe_ni {i : Int} : D.eq? .non (.int i) = some false := id rfl
theorem qe_in {i : Int} : D.eq? (.int i) .non = some false := id rfl
theorem qe_nb {i : Bool} : D.eq? .non (.bl i) = some false := id rfl
theorem qe_bn {i : Bool} : D.eq? (.bl i) .non = some false := id rfl
theorem qe_ns {i : Str} : D.eq? .non (.str i) = some false := id rfl
theorem qe_sn {i : Str} : D.eq? (.str i) .non = some false := id rfl
theorem qe_is {i : Int} {s : Str} : D.eq? (.int i) (.str s) = some false := id rfl
theorem qe_si {i : Int} {s : Str} : D.eq? (.str s) (.int i) = some false := id rfl
theorem qe_bs {i : Bool} {s : Str} : D.eq? (.bl i) (.str s) = some false := id rfl
theorem qe_sb {i : Bool} {s : Str} : D.eq? (.str s) (.bl i) = some false := id rfl
theorem at_lt {α : Type} {l : List α} (i : Nat) (h : i < l.length) : atI l (i : Int) = l[i]? := by
  unfold atI ixN
  rw [if_pos (Int.natCast_nonneg i), if_pos (by omega)]
  simp
theorem at_0 {α : Type} {a : α} {l : List α} : atI (a :: l) 0 = some a := at_lt 0 (by simp)
theorem at_1 {α : Type} {a b : α} {l : List α} : atI (a :: b :: l) 1 = some b := at_lt 1 (by simp)
theorem at_2 {α : Type} {a b c : α} {l : List α} : atI (a :: b :: c :: l) 2 = some c := at_lt 2 (by simp)
theorem at_3 {α : Type} {a b c d : α} {l : List α} : atI (a :: b :: c :: d :: l) 3 = some d := at_lt 3 (by simp)
theorem at_4 {α : Type} {a b c d e : α} {l : List α} : atI (a :: b :: c :: d :: e :: l) 4 = some e := at_lt 4 (by simp)
theorem at_5 {α : Type} {a b c d e f : α} {l : List α} : atI (a :: b :: c :: d :: e :: f :: l) 5 = some f := at_lt 5 (by simp)
theorem at_6 {α : Type} {a b c d e f g : α} {l : List α} : atI (a :: b :: c :: d :: e :: f :: g :: l) 6 = some g := at_lt 6 (by simp)
theorem at_7 {α : Type} {a b c d e f g h : α} {l : List α} : atI (a :: b :: c :: d :: e :: f :: g :: h :: l) 7 = some h := at_lt 7 (by simp)
theorem ix_30 : ixN 3 0 = some 0 := by decide
theorem ix_31 : ixN 3 1 = some 1 := by decide
theorem ix_32 : ixN 3 2 = some 2 := by decide
def lk1 (j i : Nat) (xs : List D) (s : Sl) : Sl := match s with | .cel _ _ => if i = j then .dat (.lst xs) else .un | s => s
theorem lkS_c {j i : Nat} {xs : List D} {s : Sl} {r : List Sl} : lkS j xs i (s :: r) = lk1 j i xs s :: lkS j xs (i + 1) r := by cases s <;> rfl
theorem lkS_n {j i : Nat} {xs : List D} : lkS j xs i [] = [] := id rfl
theorem lk1_u {j i : Nat} {xs : List D} : lk1 j i xs .un = .un := id rfl
theorem lk1_d {j i : Nat} {xs : List D} {d : D} : lk1 j i xs (.dat d) = .dat d := id rfl
theorem lk1_x {j i : Nat} {xs : List D} {c : Cl} {d : Option D} : lk1 j i xs (.exn c d) = .exn c d := id rfl
theorem lk1_s {j : Nat} {xs : List D} {k : CK} {c : CC} : lk1 j j xs (.cel k c) = .dat (.lst xs) := if_pos rfl
theorem cs_u : canSet .un = true := id rfl
theorem cs_d {d : D} : canSet (.dat d) = true := id rfl
theorem cs_o {c : CC} : canSet (.cel .own c) = true := id rfl
theorem cs_x {c : Cl} {d : Option D} : canSet (.exn c d) = true := id rfl
theorem lk_b {n m : String} {x : Bool} {r : List (TyN × Bool)} : List.lookup (TyN.b n) ((TyN.b m, x) :: r) = if n = m then some x else List.lookup (TyN.b n) r := by
  rw [List.lookup_cons]
  by_cases e : n = m
  · subst e; simp
  · have : (TyN.b n == TyN.b m) = false := beq_eq_false_iff_ne.mpr fun z => e (by cases z; rfl)
    rw [this, if_neg e]
theorem lk_bo {n : String} {c : Cl} {x : Bool} {r : List (TyN × Bool)} : List.lookup (TyN.b n) ((TyN.o c, x) :: r) = List.lookup (TyN.b n) r := by
  rw [List.lookup_cons]
  have : (TyN.b n == TyN.o c) = false := beq_eq_false_iff_ne.mpr fun z => by cases z
  rw [this]
theorem lk_ob {n : String} {c : Cl} {x : Bool} {r : List (TyN × Bool)} : List.lookup (TyN.o c) ((TyN.b n, x) :: r) = List.lookup (TyN.o c) r := by
  rw [List.lookup_cons]
  have : (TyN.o c == TyN.b n) = false := beq_eq_false_iff_ne.mpr fun z => by cases z
  rw [this]
theorem lk_o {c d : Cl} {x : Bool} {r : List (TyN × Bool)} : List.lookup (TyN.o c) ((TyN.o d, x) :: r) = if c = d then some x else List.lookup (TyN.o c) r := by
  rw [List.lookup_cons]
  by_cases e : c = d
  · subst e; simp
  · have : (TyN.o c == TyN.o d) = false := beq_eq_false_iff_ne.mpr fun z => e (by cases z; rfl)
    rw [this, if_neg e]
theorem lk_c {c d : Cl} {x : Bool} {r : List (Cl × Bool)} : List.lookup c ((d, x) :: r) = if c = d then some x else List.lookup c r := by
  rw [List.lookup_cons]
  by_cases e : c = d
  · subst e; simp
  · have : (c == d) = false := beq_eq_false_iff_ne.mpr e
    rw [this, if_neg e]
theorem ty_n : D.tyN .non = some (.b "NoneType") := id rfl
theorem ty_b {b : Bool} : D.tyN (.bl b) = some (.b "bool") := id rfl
theorem ty_i {i : Int} : D.tyN (.int i) = some (.b "int") := id rfl
theorem ty_s {s : Str} : D.tyN (.str s) = some (.b "str") := id rfl
theorem ty_t {xs : List D} : D.tyN (.tup xs) = some (.b "tuple") := id rfl
theorem ty_l {xs : List D} : D.tyN (.lst xs) = some (.b "list") := id rfl
theorem ty_q {xs : List D} : D.tyN (.sq xs) = some (.b "list") := id rfl
theorem ty_o {c : Cl} {xs : List D} : D.tyN (.obj c xs) = some (.o c) := id rfl
theorem ex_sb {p : Bool} {Q : Bool → Prop} : (∃ z, some (D.bl p) = some (D.bl z) ∧ Q z) = Q p := propext ⟨fun ⟨_, e, q⟩ => by cases e; exact q, fun q => ⟨_, rfl, q⟩⟩
theorem fz_l {xs : List D} : CC.froz (.lst xs) = some (.lst xs) := id rfl
theorem fz_k {kvs : List (Key × D)} : CC.froz (.dK kvs) = some (.dK (kvs.map (·.1)) (kvs.map (·.2))) := id rfl
theorem fz_t {kvs : List (List Key × D)} : CC.froz (.dT kvs) = some (.dT (kvs.map (·.1)) (kvs.map (·.2))) := id rfl
theorem fz_lac {a b : D} : CC.froz (.obj .Lacquer [("a", a), ("b", b)]) = some (.obj .Lacquer [a, b]) := id rfl
theorem fz_cli {a : D} : CC.froz (.obj .Climate [("kinds", a)]) = some (.obj .Climate [a]) := id rfl
theorem fz_wea {a : D} : CC.froz (.obj .Weather [("lengths", a)]) = some (.obj .Weather [a]) := id rfl
theorem fz_rat {a b : D} : CC.froz (.obj .Ratio [("top", a), ("bottom", b)]) = some (.obj .Ratio [a, b]) := id rfl
theorem fz_ste {a : D} : CC.froz (.obj .StepSet [("steps", a)]) = some (.obj .StepSet [a]) := id rfl
theorem fz_web {a b : D} : CC.froz (.obj .StepWeb [("steps", a), ("climate", b)]) = some (.obj .StepWeb [a, b]) := id rfl
theorem fz_sky {a : D} : CC.froz (.obj .SkyWeb [("climate", a)]) = some (.obj .SkyWeb [a]) := id rfl
theorem fz_hab {a b : D} : CC.froz (.obj .Habit [("sight", a), ("rows", b)]) = some (.obj .Habit [a, b]) := id rfl
theorem fz_dia {a : D} : CC.froz (.obj .Diary [("marks", a)]) = some (.obj .Diary [a]) := id rfl
theorem pu_0 {f : Str} {d : D} : putD f d [] = [(f, d)] := id rfl
theorem pu_lac {a b : D} : putD "b" b [("a", a)] = ([("a", a), ("b", b)] : List (Str × D)) := id rfl
theorem pu_rat {a b : D} : putD "bottom" b [("top", a)] = ([("top", a), ("bottom", b)] : List (Str × D)) := id rfl
theorem pu_web {a b : D} : putD "climate" b [("steps", a)] = ([("steps", a), ("climate", b)] : List (Str × D)) := id rfl
theorem pu_hab {a b : D} : putD "rows" b [("sight", a)] = ([("sight", a), ("rows", b)] : List (Str × D)) := id rfl
/-- the signs of hours: true is damp -/
def sg (bs : List Bool) : Str := ⟨(bs.map fun b => if b = true then 35 else 46).toArray⟩
theorem sg_len (bs : List Bool) : (sg bs).length = bs.length := by
  show (List.toArray _).size = _
  (rw [List.size_toArray, List.length_map])
theorem sg_app (a b : List Bool) : sg a ++ sg b = sg (a ++ b) := by
  show (⟨_ ++ _⟩ : Str) = ⟨_⟩
  simp [sg]
theorem sg_dot : ((("." : String) : Str)) = sg [false] := by decide +kernel
theorem sg_hash : ((("#" : String) : Str)) = sg [true] := by decide +kernel
theorem sg_nil : ((("" : String) : Str)) = sg [] := by decide +kernel
theorem sg_inj {a b : List Bool} (h : sg a = sg b) : a = b := by
  have h : (a.map fun b => if b = true then 35 else 46) = (b.map fun b => if b = true then 35 else 46) := by
    have := congrArg (fun s : Str => s.cps.toList) h
    simpa [sg] using this
  rename_i h0
  clear h0
  induction a generalizing b with
  | nil => cases b <;> simp_all
  | cons x a ih =>
    cases b with
    | nil => simp at h
    | cons y b =>
      rw [List.map_cons, List.map_cons, List.cons.injEq] at h
      rw [ih h.2]
      congr 1
      have := h.1
      revert this
      cases x <;> cases y <;> simp
theorem sg_eq {a b : List Bool} : (sg a = sg b) = (a = b) := propext ⟨sg_inj, fun e => by rw [e]⟩
theorem sg_cps (bs : List Bool) : (sg bs).cps.toList = bs.map fun b => if b = true then 35 else 46 := by simp [sg]
theorem sg_ix {bs : List Bool} {i : Nat} (h : i < bs.length) (hl : bs.length ≤ 16777216) : dIx (.str (sg bs)) (.int (i : Int)) = some (.str (sg [bs[i]])) := by
  show (if (sg bs).length ≤ 16777216 then (atI (sg bs).cps.toList (i : Int)).map fun c => D.str ⟨#[c]⟩ else none) = _
  rw [if_pos (by rw [sg_len]; exact hl), sg_cps, at_lt i (by rw [List.length_map]; exact h)]
  simp [h, sg]
theorem sg_ixI {bs : List Bool} {i : Int} (h0 : 0 ≤ i) (h : i < bs.length) (hl : bs.length ≤ 16777216) : dIx (.str (sg bs)) (.int i) = some (.str (sg [bs[i.toNat]'(by omega)])) := by
  (obtain ⟨n, rfl⟩ := Int.eq_ofNat_of_zero_le h0)
  exact sg_ix (by omega) hl
theorem sg_cut (bs : List Bool) (lo hi : Option Int) : cutS (sg bs) lo hi = sg (cut bs lo hi) := by
  unfold cutS cut
  rw [sg_len, sg_cps]
  unfold sg
  (rw [List.map_take, List.map_drop])
theorem sg_items (bs : List Bool) : (D.str (sg bs)).sitems = some (bs.map fun b => .str (sg [b])) := by
  show some (chars (sg bs)) = _
  unfold chars
  rw [sg_cps]
  simp [sg]
theorem sg_cnt (c : Bool) : ∀ bs : List Bool, cnt (if c = true then 35 else 46) (bs.map fun b => if b = true then 35 else 46) = (bs.count c : Int)
  | [] => rfl
  | b :: bs => by
    rw [List.map_cons, cnt_cons, sg_cnt c bs, List.count_cons]
    cases b <;> cases c <;> simp <;> omega
theorem sg_count (bs : List Bool) (c : Bool) : Txt.count (sg bs) (sg [c]) = (bs.count c : Int) := by
  have e : sg [c] = ⟨#[if c = true then 35 else 46]⟩ := rfl
  rw [e, count_cnt, sg_cps, sg_cnt]
theorem sg_rep (bs : List Bool) (n : Nat) : repS (sg bs) n = sg (List.replicate n bs).flatten := by
  have go : ∀ (n : Nat) (a : List Bool), (List.replicate n (sg bs).cps).foldl (· ++ ·) (sg a).cps = (sg (a ++ (List.replicate n bs).flatten)).cps := by
    intro n
    induction n with
    | zero => intro a; simp
    | succ n ih =>
      intro a
      rw [List.replicate_succ, List.foldl_cons]
      have e : (sg a).cps ++ (sg bs).cps = (sg (a ++ bs)).cps := congrArg Str.cps (sg_app a bs)
      rw [e, ih, List.replicate_succ, List.flatten_cons, List.append_assoc]
  have := go n []
  show (⟨_⟩ : Str) = _
  have e : (sg []).cps = #[] := rfl
  rw [← e, this, List.nil_append]
theorem sg_join (xs : List (List Bool)) : Txt.join (sg []) (xs.map sg) = sg xs.flatten := by
  show Builtin.Str.glued _ _ = _
  rw [PySem.StrLaws.glued_eq_join]
  induction xs with
  | nil => rfl
  | cons x xs ih =>
    cases xs with
    | nil => simp [Str.join]
    | cons y ys =>
      rw [List.map_cons, List.map_cons, Str.join, ← List.map_cons, ih]
      rw [sg_app, sg_app]
      · simp
      · intro h; cases h
theorem sgx {bs : List Bool} {i : Int} (h0 : 0 ≤ i) (h : i < bs.length) (hl : bs.length ≤ 16777216) : (if bs.length ≤ 16777216 then Option.map (fun c => D.str { cps := #[c] }) (atI (sg bs).cps.toList i) else none) = some (.str (sg [bs[i.toNat]'(by omega)])) := by
  rw [← sg_ixI h0 h hl]
  show _ = (if (sg bs).length ≤ 16777216 then _ else none)
  rw [sg_len]
theorem sg1 {b c : Bool} : (sg [b] = sg [c]) = (b = c) := by rw [sg_eq]; simp
end PL
end
namespace DP
open PySem PySem.Spec PyProof.Rows L2 PL
def topS (i : Nat) : Stmt := PySem.Challenge.pw_dampspells_k06_climate_plain.main.body.getD i (.Pass ⟨0, 0, 0, 0⟩)
abbrev s_f_check_kind : Stmt := topS 9
abbrev N_f_check_kind : List Str := ["w", "g"]
theorem sc_f_check_kind : FnScope ["w", "g"] ["w", "g"] (defScope s_f_check_kind) := ⟨rfl, rfl, rfl, by decide +kernel, rfl, by decide +kernel, by decide +kernel⟩
abbrev s_f_check_kinds : Stmt := topS 10
abbrev N_f_check_kinds : List Str := ["kinds", "w", "g"]
theorem sc_f_check_kinds : FnScope ["kinds", "w", "g"] ["kinds"] (defScope s_f_check_kinds) := ⟨rfl, rfl, rfl, by decide +kernel, rfl, by decide +kernel, by decide +kernel⟩
abbrev s_f_plain_list : Stmt := topS 11
abbrev N_f_plain_list : List Str := ["kinds", "least", "w", "g", "plain"]
theorem sc_f_plain_list : FnScope ["kinds", "least", "w", "g", "plain"] ["kinds"] (defScope s_f_plain_list) := ⟨rfl, rfl, rfl, by decide +kernel, rfl, by decide +kernel, by decide +kernel⟩
abbrev s_Climate_init : Stmt := inClass (topS 13) 0
abbrev N_Climate_init : List Str := ["self", "kinds"]
theorem sc_Climate_init : FnScope ["self", "kinds"] ["self", "kinds"] (defScope s_Climate_init) := ⟨rfl, rfl, rfl, by decide +kernel, rfl, by decide +kernel, by decide +kernel⟩
abbrev s_Climate_need : Stmt := inClass (topS 13) 1
abbrev N_Climate_need : List Str := ["self", "w", "g"]
theorem sc_Climate_need : FnScope ["self", "w", "g"] ["self"] (defScope s_Climate_need) := ⟨rfl, rfl, rfl, by decide +kernel, rfl, by decide +kernel, by decide +kernel⟩
abbrev s_Climate_peak : Stmt := inClass (topS 13) 2
abbrev N_Climate_peak : List Str := ["self", "w", "g"]
theorem sc_Climate_peak : FnScope ["self", "w", "g"] ["self"] (defScope s_Climate_peak) := ⟨rfl, rfl, rfl, by decide +kernel, rfl, by decide +kernel, by decide +kernel⟩
abbrev s_Climate_iter : Stmt := inClass (topS 13) 3
abbrev N_Climate_iter : List Str := ["self"]
theorem sc_Climate_iter : FnScope ["self"] ["self"] (defScope s_Climate_iter) := ⟨rfl, rfl, rfl, by decide +kernel, rfl, by decide +kernel, by decide +kernel⟩
abbrev s_Climate_eq : Stmt := inClass (topS 13) 4
abbrev N_Climate_eq : List Str := ["self", "other"]
theorem sc_Climate_eq : FnScope ["self", "other"] ["self", "other"] (defScope s_Climate_eq) := ⟨rfl, rfl, rfl, by decide +kernel, rfl, by decide +kernel, by decide +kernel⟩
abbrev s_Climate_dry : Stmt := inClass (topS 13) 8
abbrev N_Climate_dry : List Str := []
theorem sc_Climate_dry : FnScope [] [] (defScope s_Climate_dry) := ⟨rfl, rfl, rfl, by decide +kernel, rfl, by decide +kernel, by decide +kernel⟩
abbrev s_Climate_single : Stmt := inClass (topS 13) 9
abbrev N_Climate_single : List Str := ["cls", "w", "g"]
theorem sc_Climate_single : FnScope ["cls", "w", "g"] ["cls", "w", "g"] (defScope s_Climate_single) := ⟨rfl, rfl, rfl, by decide +kernel, rfl, by decide +kernel, by decide +kernel⟩
abbrev s_Climate_longest : Stmt := inClass (topS 13) 10
abbrev N_Climate_longest : List Str := ["self", "run", "w", "g"]
theorem sc_Climate_longest : FnScope ["self", "run", "w", "g"] ["self", "run"] (defScope s_Climate_longest) := ⟨rfl, rfl, rfl, by decide +kernel, rfl, by decide +kernel, by decide +kernel⟩
abbrev s_Climate_least_run : Stmt := inClass (topS 13) 11
abbrev N_Climate_least_run : List Str := ["self", "w", "v", "g"]
theorem sc_Climate_least_run : FnScope ["self", "w", "v", "g"] ["self", "w"] (defScope s_Climate_least_run) := ⟨rfl, rfl, rfl, by decide +kernel, rfl, by decide +kernel, by decide +kernel⟩
abbrev s_l_cell : Stmt := topS 15
abbrev N_l_cell : List Str := ["script", "k"]
theorem sc_l_cell : FnScope ["script", "k"] ["script", "k"] (defScope s_l_cell) := ⟨rfl, rfl, rfl, by decide +kernel, rfl, by decide +kernel, by decide +kernel⟩
abbrev s_l_pool : Stmt := topS 16
abbrev N_l_pool : List Str := ["cell"]
theorem sc_l_pool : FnScope ["cell"] ["cell"] (defScope s_l_pool) := ⟨rfl, rfl, rfl, by decide +kernel, rfl, by decide +kernel, by decide +kernel⟩
abbrev s_l_take : Stmt := topS 17
abbrev N_l_take : List Str := ["pool", "size", "digit", "x"]
theorem sc_l_take : FnScope ["pool", "size", "digit", "x"] ["pool", "size"] (defScope s_l_take) := ⟨rfl, rfl, rfl, by decide +kernel, rfl, by decide +kernel, by decide +kernel⟩
abbrev s_l_stairs : Stmt := topS 18
abbrev N_l_stairs : List Str := ["pool", "kinds", "g", "w"]
theorem sc_l_stairs : FnScope ["pool", "kinds", "g", "w"] ["pool"] (defScope s_l_stairs) := ⟨rfl, rfl, rfl, by decide +kernel, rfl, by decide +kernel, by decide +kernel⟩
abbrev s_l_kinds : Stmt := topS 19
abbrev N_l_kinds : List Str := ["pool", "style", "kinds", "k", "w"]
theorem sc_l_kinds : FnScope ["pool", "style", "kinds", "k", "w"] ["pool"] (defScope s_l_kinds) := ⟨rfl, rfl, rfl, by decide +kernel, rfl, by decide +kernel, by decide +kernel⟩
abbrev s_l_other : Stmt := topS 20
abbrev N_l_other : List Str := ["pool", "kinds", "way", "at", "other"]
theorem sc_l_other : FnScope ["pool", "kinds", "way", "at", "other"] ["pool", "kinds"] (defScope s_l_other) := ⟨rfl, rfl, rfl, by decide +kernel, rfl, by decide +kernel, by decide +kernel⟩
abbrev s_l_stranger : Stmt := topS 21
abbrev N_l_stranger : List Str := ["pool", "w", "g", "way"]
theorem sc_l_stranger : FnScope ["pool", "w", "g", "way"] ["pool"] (defScope s_l_stranger) := ⟨rfl, rfl, rfl, by decide +kernel, rfl, by decide +kernel, by decide +kernel⟩
abbrev s_l_needless : Stmt := topS 22
abbrev N_l_needless : List Str := ["kind", "kinds", "other"]
theorem sc_l_needless : FnScope ["kind", "kinds", "other"] ["kind", "kinds"] (defScope s_l_needless) := ⟨rfl, rfl, rfl, by decide +kernel, rfl, by decide +kernel, by decide +kernel⟩
abbrev s_l_plain : Stmt := topS 23
abbrev N_l_plain : List Str := ["kinds", "plain", "kind"]
theorem sc_l_plain : FnScope ["kinds", "plain", "kind"] ["kinds"] (defScope s_l_plain) := ⟨rfl, rfl, rfl, by decide +kernel, rfl, by decide +kernel, by decide +kernel⟩
abbrev s_l_longest : Stmt := topS 24
abbrev N_l_longest : List Str := ["kinds", "run", "best", "kind"]
theorem sc_l_longest : FnScope ["kinds", "run", "best", "kind"] ["kinds", "run"] (defScope s_l_longest) := ⟨rfl, rfl, rfl, by decide +kernel, rfl, by decide +kernel, by decide +kernel⟩
abbrev s_l_int : Stmt := topS 25
abbrev N_l_int : List Str := ["x"]
theorem sc_l_int : FnScope ["x"] ["x"] (defScope s_l_int) := ⟨rfl, rfl, rfl, by decide +kernel, rfl, by decide +kernel, by decide +kernel⟩
abbrev s_l_pairs : Stmt := topS 26
abbrev N_l_pairs : List Str := ["actual", "plain", "k", "pair"]
theorem sc_l_pairs : FnScope ["actual", "plain", "k", "pair"] ["actual", "plain"] (defScope s_l_pairs) := ⟨rfl, rfl, rfl, by decide +kernel, rfl, by decide +kernel, by decide +kernel⟩
abbrev s_l_tells : Stmt := topS 27
abbrev N_l_tells : List Str := ["climate", "plain", "need", "peak", "kind"]
theorem sc_l_tells : FnScope ["climate", "plain", "need", "peak", "kind"] ["climate", "plain"] (defScope s_l_tells) := ⟨rfl, rfl, rfl, by decide +kernel, rfl, by decide +kernel, by decide +kernel⟩
abbrev s_l_lets : Stmt := topS 28
abbrev N_l_lets : List Str := ["climate", "kinds", "run", "longest"]
theorem sc_l_lets : FnScope ["climate", "kinds", "run", "longest"] ["climate", "kinds", "run"] (defScope s_l_lets) := ⟨rfl, rfl, rfl, by decide +kernel, rfl, by decide +kernel, by decide +kernel⟩
abbrev s_l_starts : Stmt := topS 29
abbrev N_l_starts : List Str := ["climate", "kinds", "w", "runs", "least", "kind"]
theorem sc_l_starts : FnScope ["climate", "kinds", "w", "runs", "least", "kind"] ["climate", "kinds", "w"] (defScope s_l_starts) := ⟨rfl, rfl, rfl, by decide +kernel, rfl, by decide +kernel, by decide +kernel⟩
abbrev s_l_agrees : Stmt := topS 30
abbrev N_l_agrees : List Str := ["climate", "kinds", "plain", "run", "w"]
theorem sc_l_agrees : FnScope ["climate", "kinds", "plain", "run", "w"] ["climate", "kinds", "plain"] (defScope s_l_agrees) := ⟨rfl, rfl, rfl, by decide +kernel, rfl, by decide +kernel, by decide +kernel⟩
abbrev s_l_made : Stmt := topS 31
abbrev N_l_made : List Str := ["kinds", "climate"]
theorem sc_l_made : FnScope ["kinds", "climate"] ["kinds"] (defScope s_l_made) := ⟨rfl, rfl, rfl, by decide +kernel, rfl, by decide +kernel, by decide +kernel⟩
abbrev s_l_refuses : Stmt := topS 32
abbrev N_l_refuses : List Str := ["kinds", "kept", "refused", "kin", "e"]
theorem sc_l_refuses : FnScope ["kinds", "kept", "refused", "kin", "e"] ["kinds"] (defScope s_l_refuses) := ⟨rfl, rfl, rfl, by decide +kernel, rfl, by decide +kernel, by decide +kernel⟩
abbrev s_l_single_refuses : Stmt := topS 33
abbrev N_l_single_refuses : List Str := ["pair", "refused", "kin", "e"]
theorem sc_l_single_refuses : FnScope ["pair", "refused", "kin", "e"] ["pair"] (defScope s_l_single_refuses) := ⟨rfl, rfl, rfl, by decide +kernel, rfl, by decide +kernel, by decide +kernel⟩
abbrev s_l_equals : Stmt := topS 34
abbrev N_l_equals : List Str := ["one", "other", "due", "actual", "back"]
theorem sc_l_equals : FnScope ["one", "other", "due", "actual", "back"] ["one", "other", "due"] (defScope s_l_equals) := ⟨rfl, rfl, rfl, by decide +kernel, rfl, by decide +kernel, by decide +kernel⟩
abbrev s_l_law : Stmt := topS 35
abbrev N_l_law : List Str := ["script", "kinds", "plain", "pool", "other", "w", "kind", "far", "given", "climate", "turned", "second", "single", "dry", "bad", "at", "odd", "many", "k"]
theorem sc_l_law : FnScope ["script", "kinds", "plain", "pool", "other", "w", "kind", "far", "given", "climate", "turned", "second", "single", "dry", "bad", "at", "odd", "many", "k"] ["script"] (defScope s_l_law) := ⟨rfl, rfl, rfl, by decide +kernel, rfl, by decide +kernel, by decide +kernel⟩
structure S_DampError (K : PySem.W.Frag) (mg : Str → Option Value) (C : Addr) : Prop where
  mg : (mg "DampError" = some (.ref C))
  x : (PySem.W.excIn K C [.type "ValueError", .type "Exception", .type "BaseException", .type "object"] "ValueError.__new__" = true)
  kp : (PySem.W.keepIn K (.ref C) = true)
  b : (PySem.W.subIn K (.ref C) (.type "BaseException") = some true)
  t : (PySem.W.typeIn K (.ref C) = some (.type "type"))
  i : (PySem.W.isClsIn K C = true)
  s : (PySem.W.subIn K (.ref C) (.ref C) = some true)
  hg : (PySem.W.findIn K (.ref C) "__getattribute__" = some (some (.builtin "BaseException.__getattribute__")))
  hk : (PySem.W.findIn K (.ref C) "__getattr__" = some none)
  hd : (PySem.W.hasDictIn K C = true)
  ha : (PySem.W.findIn K (.ref C) "__class__" = some (some (.builtin "object.__class__")))
  hn : (PySem.W.specialIn K (.builtin "object.__class__") "__get__" = some (some (.builtin "getset_descriptor.__get__")))
  ht : (PySem.W.takesIn K (.builtin "object.__class__") = some true)
  hm : (PySem.W.mroIn K C (.type "object") = some true)
theorem S_DampError.ex {K : PySem.W.Frag} {mg : Str → Option Value} {C : Addr} (T : S_DampError K mg C) : ExcC K C := ⟨T.hg, T.hk, T.b, T.hd, T.ha, T.hn, T.ht, T.hm⟩
theorem S_DampError.te {K : PySem.W.Frag} {mg : Str → Option Value} {C : Addr} (T : S_DampError K mg C) : PySem.W.exmOne K (.ref C) (.ref C) = some true := PySem.W.exm_ref T.b T.hd T.t T.s
structure S_BadKind (K : PySem.W.Frag) (mg : Str → Option Value) (C : Addr) : Prop where
  mg : (mg "BadKind" = some (.ref C))
  x : (PySem.W.excIn K C [.type "ValueError", .type "Exception", .type "BaseException", .type "object"] "ValueError.__new__" = true)
  kp : (PySem.W.keepIn K (.ref C) = true)
  b : (PySem.W.subIn K (.ref C) (.type "BaseException") = some true)
  t : (PySem.W.typeIn K (.ref C) = some (.type "type"))
  i : (PySem.W.isClsIn K C = true)
  s : (PySem.W.subIn K (.ref C) (.ref C) = some true)
  hg : (PySem.W.findIn K (.ref C) "__getattribute__" = some (some (.builtin "BaseException.__getattribute__")))
  hk : (PySem.W.findIn K (.ref C) "__getattr__" = some none)
  hd : (PySem.W.hasDictIn K C = true)
  ha : (PySem.W.findIn K (.ref C) "__class__" = some (some (.builtin "object.__class__")))
  hn : (PySem.W.specialIn K (.builtin "object.__class__") "__get__" = some (some (.builtin "getset_descriptor.__get__")))
  ht : (PySem.W.takesIn K (.builtin "object.__class__") = some true)
  hm : (PySem.W.mroIn K C (.type "object") = some true)
theorem S_BadKind.ex {K : PySem.W.Frag} {mg : Str → Option Value} {C : Addr} (T : S_BadKind K mg C) : ExcC K C := ⟨T.hg, T.hk, T.b, T.hd, T.ha, T.hn, T.ht, T.hm⟩
theorem S_BadKind.te {K : PySem.W.Frag} {mg : Str → Option Value} {C : Addr} (T : S_BadKind K mg C) : PySem.W.exmOne K (.ref C) (.ref C) = some true := PySem.W.exm_ref T.b T.hd T.t T.s
structure S_BadNumber (K : PySem.W.Frag) (mg : Str → Option Value) (C : Addr) : Prop where
  mg : (mg "BadNumber" = some (.ref C))
  x : (PySem.W.excIn K C [.type "ValueError", .type "Exception", .type "BaseException", .type "object"] "ValueError.__new__" = true)
  kp : (PySem.W.keepIn K (.ref C) = true)
  b : (PySem.W.subIn K (.ref C) (.type "BaseException") = some true)
  t : (PySem.W.typeIn K (.ref C) = some (.type "type"))
  i : (PySem.W.isClsIn K C = true)
  s : (PySem.W.subIn K (.ref C) (.ref C) = some true)
  hg : (PySem.W.findIn K (.ref C) "__getattribute__" = some (some (.builtin "BaseException.__getattribute__")))
  hk : (PySem.W.findIn K (.ref C) "__getattr__" = some none)
  hd : (PySem.W.hasDictIn K C = true)
  ha : (PySem.W.findIn K (.ref C) "__class__" = some (some (.builtin "object.__class__")))
  hn : (PySem.W.specialIn K (.builtin "object.__class__") "__get__" = some (some (.builtin "getset_descriptor.__get__")))
  ht : (PySem.W.takesIn K (.builtin "object.__class__") = some true)
  hm : (PySem.W.mroIn K C (.type "object") = some true)
theorem S_BadNumber.ex {K : PySem.W.Frag} {mg : Str → Option Value} {C : Addr} (T : S_BadNumber K mg C) : ExcC K C := ⟨T.hg, T.hk, T.b, T.hd, T.ha, T.hn, T.ht, T.hm⟩
theorem S_BadNumber.te {K : PySem.W.Frag} {mg : Str → Option Value} {C : Addr} (T : S_BadNumber K mg C) : PySem.W.exmOne K (.ref C) (.ref C) = some true := PySem.W.exm_ref T.b T.hd T.t T.s
structure S_TooLarge (K : PySem.W.Frag) (mg : Str → Option Value) (C : Addr) : Prop where
  mg : (mg "TooLarge" = some (.ref C))
  x : (PySem.W.excIn K C [.type "ValueError", .type "Exception", .type "BaseException", .type "object"] "ValueError.__new__" = true)
  kp : (PySem.W.keepIn K (.ref C) = true)
  b : (PySem.W.subIn K (.ref C) (.type "BaseException") = some true)
  t : (PySem.W.typeIn K (.ref C) = some (.type "type"))
  i : (PySem.W.isClsIn K C = true)
  s : (PySem.W.subIn K (.ref C) (.ref C) = some true)
  hg : (PySem.W.findIn K (.ref C) "__getattribute__" = some (some (.builtin "BaseException.__getattribute__")))
  hk : (PySem.W.findIn K (.ref C) "__getattr__" = some none)
  hd : (PySem.W.hasDictIn K C = true)
  ha : (PySem.W.findIn K (.ref C) "__class__" = some (some (.builtin "object.__class__")))
  hn : (PySem.W.specialIn K (.builtin "object.__class__") "__get__" = some (some (.builtin "getset_descriptor.__get__")))
  ht : (PySem.W.takesIn K (.builtin "object.__class__") = some true)
  hm : (PySem.W.mroIn K C (.type "object") = some true)
theorem S_TooLarge.ex {K : PySem.W.Frag} {mg : Str → Option Value} {C : Addr} (T : S_TooLarge K mg C) : ExcC K C := ⟨T.hg, T.hk, T.b, T.hd, T.ha, T.hn, T.ht, T.hm⟩
theorem S_TooLarge.te {K : PySem.W.Frag} {mg : Str → Option Value} {C : Addr} (T : S_TooLarge K mg C) : PySem.W.exmOne K (.ref C) (.ref C) = some true := PySem.W.exm_ref T.b T.hd T.t T.s
structure S_Climate (K : PySem.W.Frag) (mg : Str → Option Value) (C : Addr) : Prop where
  pg : (PySem.W.plainGet K C Str.empty = true)
  hd : (PySem.W.hasDictIn K C = true)
  po : (PySem.W.plainOver K C = true)
  sa : (PySem.W.findIn K (.ref C) "__setattr__" = some (some (.builtin "object.__setattr__")))
  mg : (mg "Climate" = some (.ref C))
  sf : (PySem.W.selfFirst K C = true)
  nf : (PySem.W.notFirst K C (.ref C) = true)
  ha : (PySem.W.findIn K (.ref C) "__class__" = some (some (.builtin "object.__class__")))
  hn : (PySem.W.specialIn K (.builtin "object.__class__") "__get__" = some (some (.builtin "getset_descriptor.__get__")))
  ht : (PySem.W.takesIn K (.builtin "object.__class__") = some true)
  hm : (PySem.W.mroIn K C (.type "object") = some true)
  kp : (PySem.W.keepIn K (.ref C) = true)
  mkk : (PySem.W.makesIn K C = true)
  rd : (PySem.W.readsIn K C (.type "type") = true)
  ga : (PySem.W.specialIn K (.ref C) "__getattribute__" = some (some (.builtin "type.__getattribute__")))
  n___len__ : (PySem.W.findIn K (.ref C) "__len__" = some none)
  n___length_hint__ : (PySem.W.findIn K (.ref C) "__length_hint__" = some none)
  n_kinds : (PySem.W.findIn K (.ref C) "kinds" = some none)
theorem S_Climate.cl {K : PySem.W.Frag} {mg : Str → Option Value} {C : Addr} (T : S_Climate K mg C) : Cls K C := ⟨T.pg, T.hd, T.po, T.sa⟩
theorem S_Climate.cr {K : PySem.W.Frag} {mg : Str → Option Value} {C : Addr} (T : S_Climate K mg C) : ClX.CRead K C (.type "type") := ⟨T.rd, T.ga⟩
theorem S_Climate.ct {K : PySem.W.Frag} {mg : Str → Option Value} {C : Addr} (T : S_Climate K mg C) : ClsT K C := ⟨T.cl, T.ha, T.hn, T.ht, T.hm⟩
def B_f_check_kind : M Fl :=
    (evIf (tOo (tNo (tst (ch2 dLe dLe (vD (.int 1)) (evV 0) (vD (.int 16))))) (tNo (tst (ch2 dLe dLe (vD (.int 1)) (evV 1) (vD (.int 120))))))
    (evRaise1 .BadKind (evJn [(vD (.str "(")), (ev1 dFmt (evV 0)), (vD (.str ", ")), (ev1 dFmt (evV 1)), (vD (.str ") is not a kind"))]))
    evNx)
def G_f_check_kind : Fn := runB 0 B_f_check_kind
def B_f_check_kinds : M Fl :=
    (evSeq (evIf (tst (ev2 dGt (evB gLen [.e (evV 0)]) (vD (.int 300))))
    (evRaise1 .BadKind (evJn [(ev1 dFmt (evB gLen [.e (evV 0)])), (vD (.str " kinds are too many for a climate"))]))
    evNx)
    (evFor (itL (evV 0)) (.t [(.n 1), (.n 2)])
    (evEx (evCall 2 G_f_check_kind [.e (evV 1), .e (evV 2)]))))
def G_f_check_kinds : Fn := runB 2 B_f_check_kinds
def B_f_plain_list : M Fl :=
    (evSeq (evAsgC 1 (pur (.c (.dK []))))
    (evSeq (evFor (itL (evV 0)) (.t [(.n 2), (.n 3)])
    (evDPut 1 (evV 2) (evB gMin2 [.e (evV 3), .e (evDGet2 1 (evV 2) (evV 3))])))
    (evSeq (evAsgC 4 (evLst []))
    (evSeq (evFor (itL (evSortDR 1)) (.n 2)
    (evIf (tOo (look 4 (fun _ => true) (tNo (tTr (evV 4)))) (tst (ev2 dLt (evDGet 1 (evV 2)) (ev2 dIx (look 4 Rv.lfree (ev2 dIx (evV 4) (ev1 dNeg (vD (.int 1))))) (vD (.int 1))))))
    (evEx (evBmL 4 fApp [.e (evTup [.e (evV 2), .e (evDGet 1 (evV 2))])]))
    evNx))
    (evRet (evRev (evF 4)))))))
def G_f_plain_list : Fn := run0 4 B_f_plain_list
def B_Climate_init : M Fl :=
    (evSeq (evEx (evCall 1 G_f_check_kinds [.e (evV 1)]))
    (evFldS .Climate 0 "kinds" (evB gTup [.e (evCall0 1 G_f_plain_list [.e (evV 1)])])))
def G_Climate_init : Fn := runB 0 B_Climate_init
def B_Climate_need : M Fl :=
    (evRet (evMaxD [.e (evLc [1, 2] (itT (ev1 (dFld .Climate 0) (evV 0))) (.t [(.n 1), (.n 2)]) (pur true) (evV 2))] (vD (.int 0))))
def G_Climate_need : Fn := run0 2 B_Climate_need
def B_Climate_peak : M Fl :=
    (evRet (evMaxD [.e (evLc [1, 2] (itT (ev1 (dFld .Climate 0) (evV 0))) (.t [(.n 1), (.n 2)]) (pur true) (evV 1))] (vD (.int 0))))
def G_Climate_peak : Fn := run0 2 B_Climate_peak
def B_Climate_eq : M Fl :=
    (evRet (vAn (evIsi [(.o .Climate, true), (.b "NoneType", false)] (evV 1)) (ev2 dEq (ev1 (dFld .Climate 0) (evV 0)) (ev1 (dFld .Climate 0) (evV 1)))))
def G_Climate_eq : Fn := run0 0 B_Climate_eq
def B_Climate_dry : M Fl :=
    (evRet (evMk 2 G_Climate_init .Climate [.e (evLst [])]))
def G_Climate_dry : Fn := runB 0 B_Climate_dry
def B_Climate_single : M Fl :=
    (evRet (evMkL 0 2 G_Climate_init .Climate [.e (evLst [.e (evTup [.e (evV 1), .e (evV 2)])])]))
def G_Climate_single : Fn := runB 0 B_Climate_single
def B_Climate_longest : M Fl :=
    (evRet (evMaxD [.e (evLc [2, 3] (itT (ev1 (dFld .Climate 0) (evV 0))) (.t [(.n 2), (.n 3)]) (tst (ev2 dLe (evV 3) (evV 1))) (evV 2))] (vD (.int 0))))
def G_Climate_longest : Fn := run0 2 B_Climate_longest
def B_Climate_least_run : M Fl :=
    (evRet (evBestN min [.e (evLc [2, 3] (itT (ev1 (dFld .Climate 0) (evV 0))) (.t [(.n 2), (.n 3)]) (tst (ev2 dGe (evV 2) (evV 1))) (evV 3))]))
def G_Climate_least_run : Fn := run0 2 B_Climate_least_run
def B_l_cell : M Fl :=
    (evSeq (evIf (tst (ev2 dLt (evV 1) (evB gLen [.e (evV 0)])))
    (evRet (ev2 dIx (evV 0) (evV 1)))
    evNx)
    (evRet (ev2 dAdd (ev2 dMul (vD (.int 977)) (evV 1)) (vD (.int 31)))))
def G_l_cell : Fn := run0 0 B_l_cell
def B_l_pool : M Fl :=
    (evSeq (evIf (tst (ev2 dGe (evV 0) (ev2 dPow (vD (.int 10)) (vD (.int 18)))))
    (evRet (evLst [.e (ev2 dSub (evV 0) (ev2 dPow (vD (.int 10)) (vD (.int 18)))), .e (ev2 dMod (evB gInt [.e (evV 0)]) (vD (.int 1000000007))), .e (vD (.int 0))]))
    evNx)
    (evSeq (evIf (tst (ev2 dLt (evV 0) (vD (.int 0))))
    (evRet (evLst [.e (vD (.int 0)), .e (ev2 dMod (evB gInt [.e (ev2 dSub (vD (.int 1)) (ev2 dMul (vD (.int 2)) (evV 0)))]) (vD (.int 1000000007))), .e (vD (.int 0))]))
    evNx)
    (evRet (evLst [.e (vD (.int 0)), .e (ev2 dMod (evB gInt [.e (ev2 dMul (vD (.int 2)) (evV 0))]) (vD (.int 1000000007))), .e (vD (.int 0))]))))
def G_l_pool : Fn := run0 0 B_l_pool
def B_l_take : M Fl :=
    (evSeq (evSetI 0 (vD (.int 2)) (ev2 dAdd (look 0 Rv.lfree (ev2 dIx (evV 0) (vD (.int 2)))) (vD (.int 1))))
    (evSeq (evIf (tst (ev2 dGt (look 0 Rv.lfree (ev2 dIx (evV 0) (vD (.int 0)))) (vD (.int 1))))
    (evSeq (evAsg 2 (ev2 dMod (evB gInt [.e (look 0 Rv.lfree (ev2 dIx (evV 0) (vD (.int 0))))]) (evV 1)))
    (evSeq (evSetI 0 (vD (.int 0)) (ev2 dDiv (look 0 Rv.lfree (ev2 dIx (evV 0) (vD (.int 0)))) (evV 1)))
    (evRet (evV 2))))
    evNx)
    (evSeq (evAsg 3 (ev2 dMod (evB gInt [.e (ev2 dAdd (ev2 dAdd (look 0 Rv.lfree (ev2 dIx (evV 0) (vD (.int 1)))) (ev2 dMul (vD (.int 48271)) (look 0 Rv.lfree (ev2 dIx (evV 0) (vD (.int 2)))))) (vD (.int 12345)))]) (vD (.int 2147483647))))
    (evSeq (evAsg 3 (ev2 dMod (evB gInt [.e (ev2 dAdd (ev2 dAdd (ev2 dMul (evV 3) (evV 3)) (ev2 dMul (vD (.int 16807)) (look 0 Rv.lfree (ev2 dIx (evV 0) (vD (.int 2)))))) (vD (.int 7)))]) (vD (.int 2147483629))))
    (evSeq (evAsg 3 (ev2 dMod (evB gInt [.e (ev2 dAdd (ev2 dAdd (ev2 dMul (evV 3) (evV 3)) (ev2 dMul (vD (.int 69621)) (look 0 Rv.lfree (ev2 dIx (evV 0) (vD (.int 2)))))) (vD (.int 3)))]) (vD (.int 2147483587))))
    (evRet (ev2 dMod (evB gInt [.e (ev2 dDiv (evV 3) (vD (.int 7)))]) (evV 1))))))))
def G_l_take : Fn := run0 2 B_l_take
def B_l_stairs : M Fl :=
    (evSeq (evAsgC 1 (evLst []))
    (evSeq (evAsg 2 (vD (.int 0)))
    (evSeq (evFor (itR2 (vD (.int 1)) (vD (.int 17))) (.n 3)
    (evIf (tst (ev2 dGt (evCall0 2 G_l_take [.c 0, .e (vD (.int 3))]) (vD (.int 0))))
    (evSeq (evAsg 2 (ev2 dAdd (ev2 dAdd (evV 2) (vD (.int 1))) (evCall0 2 G_l_take [.c 0, .e (vD (.int 7))])))
    (evEx (evBmL 1 fIns [.e (evCall0 2 G_l_take [.c 0, .e (ev2 dAdd (look 1 Rv.lfree (evB gLen [.e (evV 1)])) (vD (.int 1)))]), .e (evTup [.e (evV 3), .e (evV 2)])])))
    evNx))
    (evRet (evM 1)))))
def G_l_stairs : Fn := run0 3 B_l_stairs
def B_l_kinds : M Fl :=
    (evSeq (evAsg 1 (evCall0 2 G_l_take [.c 0, .e (vD (.int 8))]))
    (evSeq (evIf (tst (ev2 dEq (evV 1) (vD (.int 7))))
    (evRet (evCall0 1 G_l_stairs [.c 0]))
    evNx)
    (evSeq (evAsgC 2 (evLst []))
    (evSeq (evFor (itR1 (evCall0 2 G_l_take [.c 0, .e (vD (.int 11))])) (.n 3)
    (evIf (tAn (tst (ev2 dGt (look 2 Rv.lfree (evB gLen [.e (evV 2)])) (vD (.int 0)))) (tst (ev2 dEq (evCall0 2 G_l_take [.c 0, .e (vD (.int 5))]) (vD (.int 1)))))
    (evEx (evBmL 2 fApp [.e (evIxL 2 (evCall0 2 G_l_take [.c 0, .e (look 2 Rv.lfree (evB gLen [.e (evV 2)]))]))]))
    (evIf (tst (ev2 dLt (evV 1) (vD (.int 4))))
    (evSeq (evAsg 4 (ev2 dAdd (vD (.int 1)) (evCall0 2 G_l_take [.c 0, .e (vD (.int 5))])))
    (evEx (evBmL 2 fApp [.e (evTup [.e (evV 4), .e (ev2 dAdd (vD (.int 1)) (evCall0 2 G_l_take [.c 0, .e (vD (.int 6))]))])])))
    (evSeq (evAsg 4 (ev2 dAdd (vD (.int 1)) (evCall0 2 G_l_take [.c 0, .e (vD (.int 16))])))
    (evEx (evBmL 2 fApp [.e (evTup [.e (evV 4), .e (ev2 dAdd (vD (.int 1)) (evCall0 2 G_l_take [.c 0, .e (vD (.int 120))]))])]))))))
    (evRet (evM 2))))))
def G_l_kinds : Fn := run0 4 B_l_kinds
def B_l_other : M Fl :=
    (evSeq (evAsg 2 (evCall0 2 G_l_take [.c 0, .e (vD (.int 4))]))
    (evSeq (evIf (tOo (tst (ev2 dEq (evB gLen [.e (evV 1)]) (vD (.int 0)))) (tst (ev2 dEq (evV 2) (vD (.int 3)))))
    (evRet (evCall0 1 G_l_kinds [.c 0]))
    evNx)
    (evSeq (evAsg 3 (evCall0 2 G_l_take [.c 0, .e (evB gLen [.e (evV 1)])]))
    (evSeq (evAsgC 4 (evBc gLst [.e (evV 1)]))
    (evSeq (evIf (tst (ev2 dEq (evV 2) (vD (.int 0))))
    (evRet (ev2c cCat (evSl (evF 4) (some (evV 3)) none) (evSl (evF 4) none (some (evV 3)))))
    evNx)
    (evSeq (evIf (tst (ev2 dEq (evV 2) (vD (.int 1))))
    (evEx (evBmL 4 fPopAt [.e (evV 3)]))
    (evSetI 4 (evV 3) (evTup [.e (ev2 dIx (ev2 dIx (evV 1) (evV 3)) (vD (.int 0))), .e (evB gMin2 [.e (vD (.int 120)), .e (ev2 dAdd (ev2 dIx (ev2 dIx (evV 1) (evV 3)) (vD (.int 1))) (vD (.int 1)))])])))
    (evRet (evM 4))))))))
def G_l_other : Fn := run0 3 B_l_other
def B_l_stranger : M Fl :=
    (evSeq (evAsg 1 (ev2 dAdd (vD (.int 1)) (evCall0 2 G_l_take [.c 0, .e (vD (.int 16))])))
    (evSeq (evAsg 2 (ev2 dAdd (vD (.int 1)) (evCall0 2 G_l_take [.c 0, .e (vD (.int 120))])))
    (evSeq (evAsg 3 (evCall0 2 G_l_take [.c 0, .e (vD (.int 4))]))
    (evSeq (evIf (tst (ev2 dEq (evV 3) (vD (.int 0))))
    (evAsg 1 (ev2 dSub (vD (.int 0)) (ev2 dMul (evCall0 2 G_l_take [.c 0, .e (vD (.int 2))]) (evCall0 2 G_l_take [.c 0, .e (vD (.int 20))]))))
    (evIf (tst (ev2 dEq (evV 3) (vD (.int 1))))
    (evAsg 1 (ev2 dAdd (vD (.int 17)) (ev2 dMul (evCall0 2 G_l_take [.c 0, .e (vD (.int 2))]) (evCall0 2 G_l_take [.c 0, .e (vD (.int 1000))]))))
    (evIf (tst (ev2 dEq (evV 3) (vD (.int 2))))
    (evAsg 2 (ev2 dSub (vD (.int 0)) (ev2 dMul (evCall0 2 G_l_take [.c 0, .e (vD (.int 2))]) (evCall0 2 G_l_take [.c 0, .e (vD (.int 20))]))))
    (evAsg 2 (ev2 dAdd (vD (.int 121)) (ev2 dMul (evCall0 2 G_l_take [.c 0, .e (vD (.int 2))]) (evCall0 2 G_l_take [.c 0, .e (vD (.int 1000))])))))))
    (evRet (evTup [.e (evV 1), .e (evV 2)]))))))
def G_l_stranger : Fn := run0 3 B_l_stranger
def B_l_needless : M Fl :=
    (evSeq (evFor (itL (evV 1)) (.n 2)
    (evIf (tAn (tst (ev2 dNe (evV 2) (evV 0))) (tAn (tst (ev2 dGe (ev2 dIx (evV 2) (vD (.int 0))) (ev2 dIx (evV 0) (vD (.int 0))))) (tst (ev2 dLe (ev2 dIx (evV 2) (vD (.int 1))) (ev2 dIx (evV 0) (vD (.int 1)))))))
    (evRet (vD (.bl true)))
    evNx))
    (evRet (vD (.bl false))))
def G_l_needless : Fn := run0 1 B_l_needless
def B_l_plain : M Fl :=
    (evSeq (evAsgC 1 (evLst []))
    (evSeq (evFor (itL (evV 0)) (.n 2)
    (evIf (tAn (look 1 (fun _ => true) (tst (ev2 dNotInD (evV 2) (evV 1)))) (tNo (tst (evCall0 2 G_l_needless [.e (evV 2), .e (evV 0)]))))
    (evEx (evBmL 1 fApp [.e (evV 2)]))
    evNx))
    (evRet (evBc gSrtP [.e (evF 1)]))))
def G_l_plain : Fn := run0 2 B_l_plain
def B_l_longest : M Fl :=
    (evSeq (evAsg 2 (vD (.int 0)))
    (evSeq (evFor (itL (evV 0)) (.n 3)
    (evIf (tAn (tst (ev2 dLe (ev2 dIx (evV 3) (vD (.int 1))) (evV 1))) (tst (ev2 dGt (ev2 dIx (evV 3) (vD (.int 0))) (evV 2))))
    (evAsg 2 (ev2 dIx (evV 3) (vD (.int 0))))
    evNx))
    (evRet (evV 2))))
def G_l_longest : Fn := run0 2 B_l_longest
def B_l_int : M Fl :=
    (evRet (vAn (evIsi [(.b "int", true), (.b "NoneType", false)] (evV 0)) (vNo (evIsi [(.b "int", false), (.b "NoneType", false)] (evV 0)))))
def G_l_int : Fn := run0 0 B_l_int
def B_l_pairs : M Fl :=
    (evSeq (evIf (tst (ev2 dNe (evB gLen [.e (evV 0)]) (evB gLen [.e (evV 1)])))
    (evRet (vD (.bl false)))
    evNx)
    (evSeq (evFor (itR1 (evB gLen [.e (evV 1)])) (.n 2)
    (evSeq (evAsg 3 (ev2 dIx (evV 0) (evV 2)))
    (evSeq (evIf (tOo (tNo (tst (evIsi [(.b "tuple", true)] (evV 3)))) (tOo (tst (ev2 dNe (evB gLen [.e (evV 3)]) (vD (.int 2)))) (tOo (tNo (tst (evCall0 1 G_l_int [.e (ev2 dIx (evV 3) (vD (.int 0)))]))) (tNo (tst (evCall0 1 G_l_int [.e (ev2 dIx (evV 3) (vD (.int 1)))]))))))
    (evRet (vD (.bl false)))
    evNx)
    (evIf (tOo (tst (ev2 dNe (ev2 dIx (evV 3) (vD (.int 0))) (ev2 dIx (ev2 dIx (evV 1) (evV 2)) (vD (.int 0))))) (tst (ev2 dNe (ev2 dIx (evV 3) (vD (.int 1))) (ev2 dIx (ev2 dIx (evV 1) (evV 2)) (vD (.int 1))))))
    (evRet (vD (.bl false)))
    evNx))))
    (evRet (vD (.bl true)))))
def G_l_pairs : Fn := run0 2 B_l_pairs
def B_l_tells : M Fl :=
    (evSeq (evIf (tOo (tNo (tst (evIsi [(.o .Climate, true), (.b "NoneType", false)] (evV 0)))) (tNo (tst (evIsi [(.b "tuple", true)] (ev1 (dFld .Climate 0) (evV 0))))))
    (evRet (vD (.bl false)))
    evNx)
    (evSeq (evIf (tOo (tNo (tst (evCall0 2 G_l_pairs [.e (ev1 (dFld .Climate 0) (evV 0)), .e (evV 1)]))) (tNo (tst (evCall0 2 G_l_pairs [.e (evBc (gLstO .Climate 0) [.e (evV 0)]), .e (evV 1)]))))
    (evRet (vD (.bl false)))
    evNx)
    (evSeq (evAsg 2 (vD (.int 0)))
    (evSeq (evAsg 3 (vD (.int 0)))
    (evSeq (evFor (itL (evV 1)) (.n 4)
    (evSeq (evAsg 2 (evB gMax2 [.e (evV 2), .e (ev2 dIx (evV 4) (vD (.int 1)))]))
    (evAsg 3 (evB gMax2 [.e (evV 3), .e (ev2 dIx (evV 4) (vD (.int 0)))]))))
    (evSeq (evIf (tOo (tNo (tst (evCall0 1 G_l_int [.e (evMeth 1 G_Climate_need .Climate (evV 0) [])]))) (tNo (tst (evCall0 1 G_l_int [.e (evMeth 1 G_Climate_peak .Climate (evV 0) [])]))))
    (evRet (vD (.bl false)))
    evNx)
    (evRet (vAn (ev2 dEq (evMeth 1 G_Climate_need .Climate (evV 0) []) (evV 2)) (ev2 dEq (evMeth 1 G_Climate_peak .Climate (evV 0) []) (evV 3))))))))))
def G_l_tells : Fn := run0 3 B_l_tells
def B_l_lets : M Fl :=
    (evSeq (evAsg 3 (evMeth 2 G_Climate_longest .Climate (evV 0) [.e (evV 2)]))
    (evRet (vAn (evCall0 1 G_l_int [.e (evV 3)]) (ev2 dEq (evV 3) (evCall0 2 G_l_longest [.e (evV 1), .e (evV 2)])))))
def G_l_lets : Fn := run0 1 B_l_lets
def B_l_starts : M Fl :=
    (evSeq (evAsg 3 (evLc [5] (itL (evV 1)) (.n 5) (tst (ev2 dGe (ev2 dIx (evV 5) (vD (.int 0))) (evV 2))) (ev2 dIx (evV 5) (vD (.int 1)))))
    (evSeq (evAsg 4 (evMeth 2 G_Climate_least_run .Climate (evV 0) [.e (evV 2)]))
    (evSeq (evIf (tst (ev2 dEq (evB gLen [.e (evV 3)]) (vD (.int 0))))
    (evRet (ev2 dIs (evV 4) (vD .non)))
    evNx)
    (evRet (vAn (evCall0 1 G_l_int [.e (evV 4)]) (ev2 dEq (evV 4) (evB gMinL [.e (evV 3)])))))))
def G_l_starts : Fn := run0 3 B_l_starts
def B_l_agrees : M Fl :=
    (evSeq (evIf (tNo (tst (evCall0 2 G_l_tells [.e (evV 0), .e (evV 2)])))
    (evRet (vD (.bl false)))
    evNx)
    (evSeq (evFor (itR1 (vD (.int 122))) (.n 3)
    (evIf (tNo (tst (evCall0 3 G_l_lets [.e (evV 0), .e (evV 1), .e (evV 3)])))
    (evRet (vD (.bl false)))
    evNx))
    (evSeq (evFor (itR2 (ev1 dNeg (vD (.int 1))) (vD (.int 19))) (.n 4)
    (evIf (tNo (tst (evCall0 3 G_l_starts [.e (evV 0), .e (evV 1), .e (evV 4)])))
    (evRet (vD (.bl false)))
    evNx))
    (evRet (vD (.bl true))))))
def G_l_agrees : Fn := run0 2 B_l_agrees
def B_l_made : M Fl :=
    (evSeq (evAsg 1 (vD .non))
    (evSeq (evTryO (evAsg 1 (evMk 2 G_Climate_init .Climate [.e (evV 0)])) [(.DampError, false), (.BadKind, true), (.BadNumber, false), (.TooLarge, false)]
    (evAsg 1 (vD .non)))
    (evRet (evV 1))))
def G_l_made : Fn := run0 1 B_l_made
def B_l_refuses : M Fl :=
    (evSeq (evAsg 1 (evBc gLst [.e (evV 0)]))
    (evSeq (evAsg 2 (vD (.bl false)))
    (evSeq (evAsg 3 (vD (.bl false)))
    (evSeq (evTryA 4 (evEx (evMk 2 G_Climate_init .Climate [.e (evV 0)])) [(.DampError, false), (.BadKind, true), (.BadNumber, false), (.TooLarge, false)]
    (evSeq (evAsg 2 (vD (.bl true)))
    (evSeq (evAsg 3 (vAn (evIsE 4 [(.o .BadKind, true)]) (evIsE 4 [(.o .BadKind, true)])))
    (evAsg 3 (vAn (evV 3) (vAn (vNo (evIsE 4 [(.o .BadKind, false)])) (vNo (evIsE 4 [(.o .BadKind, false)]))))))))
    (evRet (vAn (evV 2) (vAn (evV 3) (ev2 dEq (evV 0) (evV 1)))))))))
def G_l_refuses : Fn := run0 4 B_l_refuses
def B_l_single_refuses : M Fl :=
    (evSeq (evAsg 1 (vD (.bl false)))
    (evSeq (evAsg 2 (vD (.bl false)))
    (evSeq (evTryA 3 (evEx (evCallCS 3 G_Climate_single .Climate [.e (ev2 dIx (evV 0) (vD (.int 0))), .e (ev2 dIx (evV 0) (vD (.int 1)))])) [(.DampError, false), (.BadKind, true), (.BadNumber, false), (.TooLarge, false)]
    (evSeq (evAsg 1 (vD (.bl true)))
    (evSeq (evAsg 2 (vAn (evIsE 3 [(.o .BadKind, true)]) (evIsE 3 [(.o .BadKind, true)])))
    (evAsg 2 (vAn (evV 2) (vAn (vNo (evIsE 3 [(.o .BadKind, false)])) (vNo (evIsE 3 [(.o .BadKind, false)]))))))))
    (evRet (vAn (evV 1) (evV 2))))))
def G_l_single_refuses : Fn := run0 3 B_l_single_refuses
def B_l_equals : M Fl :=
    (evSeq (evAsg 3 (evOwn2 2 G_Climate_eq .Climate (evV 0) (evV 1)))
    (evSeq (evAsg 4 (evOwn2 2 G_Climate_eq .Climate (evV 1) (evV 0)))
    (evRet (vAn (evIsi [(.b "bool", true)] (evV 3)) (vAn (evIsi [(.b "bool", true)] (evV 4)) (vAn (ev2 dEq (evV 3) (evV 2)) (ev2 dEq (evV 4) (evV 2))))))))
def G_l_equals : Fn := run0 2 B_l_equals
def B_l_law : M Fl :=
    (evSeq (evAsg 1 (evCallN0 1 G_l_kinds (evCall0 1 G_l_pool [.e (evCall0 2 G_l_cell [.e (evV 0), .e (vD (.int 0))])]) []))
    (evSeq (evAsg 2 (evCall0 1 G_l_plain [.e (evV 1)]))
    (evSeq (evAsgC 3 (evCall0 1 G_l_pool [.e (evCall0 2 G_l_cell [.e (evV 0), .e (vD (.int 1))])]))
    (evSeq (evAsg 4 (evCall0 2 G_l_other [.c 3, .e (evV 1)]))
    (evSeq (evAsg 5 (ev2 dAdd (vD (.int 1)) (evCall0 2 G_l_take [.c 3, .e (vD (.int 16))])))
    (evSeq (evAsg 6 (evTup [.e (evV 5), .e (ev2 dAdd (vD (.int 1)) (evCall0 2 G_l_take [.c 3, .e (vD (.int 120))]))]))
    (evSeq (evAsg 7 (evCall0 2 G_l_take [.c 3, .e (ev2 dPow (vD (.int 10)) (vD (.int 9)))]))
    (evSeq (evAsgC 8 (evBc gLst [.e (evV 1)]))
    (evSeq (evAsg 9 (look 8 Rv.lfree (evCall0 1 G_l_made [.e (evV 8)])))
    (evSeq (evIf (tOo (look 8 (fun _ => true) (tst (ev2 dNe (evV 8) (evV 1)))) (tNo (tst (evCall0 3 G_l_agrees [.e (evV 9), .e (evV 1), .e (evV 2)]))))
    (evRet (vD (.bl false)))
    evNx)
    (evSeq (evEx (evBmL 8 fApp [.e (evTup [.e (vD (.int 16)), .e (vD (.int 1))])]))
    (evSeq (evSetI 8 (vD (.int 0)) (evTup [.e (vD (.int 15)), .e (vD (.int 2))]))
    (evSeq (evAsg 10 (evCall0 1 G_l_made [.e (evLc [18] (itR1 (evB gLen [.e (evV 1)])) (.n 18) (pur true) (ev2 dIx (evV 1) (ev2 dSub (ev2 dSub (evB gLen [.e (evV 1)]) (vD (.int 1))) (evV 18))))]))
    (evSeq (evAsg 11 (evCall0 1 G_l_made [.e (evBc gLst [.e (evV 4)])]))
    (evSeq (evIf (tOo (tNo (tst (evCall0 2 G_l_tells [.e (evV 9), .e (evV 2)]))) (tOo (tNo (tst (evCall0 3 G_l_lets [.e (evV 9), .e (evV 1), .e (evV 7)]))) (tNo (tst (evCall0 3 G_l_starts [.e (evV 9), .e (evV 1), .e (vD (.int 1))])))))
    (evRet (vD (.bl false)))
    evNx)
    (evSeq (evIf (tOo (tNo (tst (evCall0 3 G_l_equals [.e (evV 9), .e (evV 10), .e (vD (.bl true))]))) (tNo (tst (evCall0 3 G_l_equals [.e (evV 9), .e (evV 11), .e (ev2 dEq (evV 2) (evCall0 1 G_l_plain [.e (evV 4)]))]))))
    (evRet (vD (.bl false)))
    evNx)
    (evSeq (evIf (tOo (tNo (tst (evCall0 2 G_l_tells [.e (evV 11), .e (evCall0 1 G_l_plain [.e (evV 4)])]))) (tNo (tst (evCall0 3 G_l_lets [.e (evV 11), .e (evV 4), .e (evV 7)]))))
    (evRet (vD (.bl false)))
    evNx)
    (evSeq (evAsg 12 (evCallC 3 G_Climate_single .Climate [.e (ev2 dIx (evV 6) (vD (.int 0))), .e (ev2 dIx (evV 6) (vD (.int 1)))]))
    (evSeq (evIf (tOo (tNo (tst (evCall0 2 G_l_tells [.e (evV 12), .e (evLst [.e (evV 6)])]))) (tOo (tNo (tst (evCall0 3 G_l_lets [.e (evV 12), .e (evLst [.e (evV 6)]), .e (ev2 dIx (evV 6) (vD (.int 1)))]))) (tNo (tst (evCall0 3 G_l_lets [.e (evV 12), .e (evLst [.e (evV 6)]), .e (evV 7)])))))
    (evRet (vD (.bl false)))
    evNx)
    (evSeq (evIf (tOo (tNo (tst (evCall0 3 G_l_lets [.e (evV 12), .e (evLst [.e (evV 6)]), .e (ev2 dSub (ev2 dIx (evV 6) (vD (.int 1))) (vD (.int 1)))]))) (tNo (tst (evCall0 3 G_l_equals [.e (evV 12), .e (evCall0 1 G_l_made [.e (evLst [.e (evV 6), .e (evV 6)])]), .e (vD (.bl true))]))))
    (evRet (vD (.bl false)))
    evNx)
    (evSeq (evAsg 13 (evCall0 0 G_Climate_dry []))
    (evSeq (evIf (tOo (tNo (tst (evCall0 2 G_l_tells [.e (evV 13), .e (evLst [])]))) (tOo (tNo (tst (evCall0 3 G_l_lets [.e (evV 13), .e (evLst []), .e (evV 7)]))) (tNo (tst (evCall0 3 G_l_starts [.e (evV 13), .e (evLst []), .e (vD (.int 0))])))))
    (evRet (vD (.bl false)))
    evNx)
    (evSeq (evIf (tNo (tst (evCall0 2 G_l_tells [.e (evCall0 1 G_l_made [.e (evLst [.e (evTup [.e (vD (.int 16)), .e (vD (.int 120))]), .e (evTup [.e (vD (.int 1)), .e (vD (.int 1))])])]), .e (evLst [.e (evTup [.e (vD (.int 1)), .e (vD (.int 1))]), .e (evTup [.e (vD (.int 16)), .e (vD (.int 120))])])])))
    (evRet (vD (.bl false)))
    evNx)
    (evSeq (evAsgC 3 (evCall0 1 G_l_pool [.e (evCall0 2 G_l_cell [.e (evV 0), .e (vD (.int 2))])]))
    (evSeq (evAsgC 14 (evBc gLst [.e (evV 1)]))
    (evSeq (evAsg 15 (evCall0 2 G_l_take [.c 3, .e (ev2 dAdd (evB gLen [.e (evV 1)]) (vD (.int 1)))]))
    (evSeq (evAsg 16 (evCall0 1 G_l_stranger [.c 3]))
    (evSeq (evEx (evBmL 14 fIns [.e (evV 15), .e (evV 16)]))
    (evSeq (evIf (tOo (tNo (look 14 (fun _ => true) (tst (evCall0 1 G_l_refuses [.e (evV 14)])))) (tNo (tst (evCall0 1 G_l_single_refuses [.e (evV 16)]))))
    (evRet (vD (.bl false)))
    evNx)
    (evSeq (evEx (evBmL 14 fPopAt [.e (evV 15)]))
    (evSeq (evIf (tNo (tst (evCall0 2 G_l_tells [.e (evCall0 1 G_l_made [.e (evF 14)]), .e (evV 2)])))
    (evRet (vD (.bl false)))
    evNx)
    (evSeq (evIf (tst (ev2 dEq (evCall0 2 G_l_take [.c 3, .e (vD (.int 8))]) (vD (.int 5))))
    (evSeq (evAsg 17 (ev2c cRep (ev2c cCat (evF 14) (evLst [.e (evV 6)])) (vD (.int 301))))
    (evIf (tOo (tNo (tst (evCall0 2 G_l_tells [.e (evCall0 1 G_l_made [.e (evSl (evV 17) none (some (vD (.int 300))))]), .e (evCall0 1 G_l_plain [.e (ev2c cCat (evF 14) (evLst [.e (evV 6)]))])]))) (tNo (tst (evCall0 1 G_l_refuses [.e (evSl (evV 17) none (some (vD (.int 301))))]))))
    (evRet (vD (.bl false)))
    evNx))
    evNx)
    (evRet (vAn (evCall0 2 G_l_tells [.e (evV 9), .e (evV 2)]) (vAn (evCall0 3 G_l_lets [.e (evV 9), .e (evV 1), .e (vD (.int 120))]) (evCall0 3 G_l_lets [.e (evV 9), .e (evV 1), .e (vD (.int 0))]))))))))))))))))))))))))))))))))))))
def G_l_law : Fn := run0 18 B_l_law
end DP
namespace DP
open PySem PySem.Spec PyProof.Rows L2 PL
/-- the rules, and the reckoning of slots -/
local macro_rules | `(tactic| walk_at "ys") => `(tactic| try simp (config := { maxSteps := 1000000, dsimp := false }) only [List.length_map, sg_len, sg_app, sg_dot, sg_hash, sg_nil, sg1, ↓Y_pur, ↓Y_fai, ↓Y_bnd, ↓Y_noEr, ↓Y_vD, ↓Y_evV, ↓Y_evF, ↓Y_evM, ↓Y_dat, ↓Y_tst, ↓Y_ev2, ↓Y_ev2c, ↓Y_ev1, ↓Y_seq, ↓Y_evIf, ↓Y_tNo, ↓Y_tAn, ↓Y_tOo, ↓Y_vNo, ↓Y_vAn, ↓Y_vOo, ↓Y_vIf, ↓Y_ch2, ↓Y_ch3, ↓Y_setD, ↓Y_setC, ↓Y_asg, ↓Y_asgC, ↓Y_ret, ↓Y_ex, ↓Y_nx, ↓Y_look,
  ↓Y_ds0, ↓Y_dsE, ↓Y_dsS, ↓Y_B, ↓Y_Bc, ↓Y_tup, ↓Y_lst, ↓Y_bmL, ↓Y_ixL, ↓Y_setI, ↓Y_as0, ↓Y_asE, ↓Y_asC, ↓Y_callG, ↓Y_call, ↓Y_call0, ↓Y_BestN, ↓Y_st, ↓Y_ownIn, ↓Y_ownNin, ↓Y_callV, ↓Y_CallV, ↓Y_CallV0, ↓Y_CallVS, datas_0, datas_d, List.drop_succ_cons, List.drop_zero, ↓Y_own2, ↓Y_CallC, ↓Y_CallCS, ↓Y_mkL, ↓Y_callN, ↓Y_CallN, ↓Y_CallN0, ↓Y_mkG, ↓Y_mk, ↓Y_mk0, ↓Y_meth, ↓Y_methS, ↓Y_runB, ↓Y_run0, ↓Y_raise, ↓Y_raise1, ↓Y_raiseP, ↓Y_for, ↓Y_isi, ↓Y_tTr, ↓Y_fldS, ↓Y_asgN, ↓Y_dget, ↓Y_dget2, ↓Y_dput, ↓Y_sortDR, D.key, ↓Y_asgT, ↓Y_asgTt, ↓Y_asgTs0, ↓Y_asgTsC, ↓Y_part0, ↓Y_partS, ↓Y_sl, ↓Y_rev, ↓Y_vNoT, ↓Y_maxD, ↓Y_itO, ↓Y_lc, ↓Y_lc2, ↓Y_tryO, ↓Y_tryA, ↓Y_tryM, ↓Y_pick0, ↓Y_pickC, ↓Y_suiteA, eqL_ints, qe_ii, qe_bb, qe_ss, qe_nn, qe_ni, qe_in, qe_nb, qe_bn, qe_ns, qe_sn, qe_is, qe_si, qe_bs, qe_sb, in_ints, ↓Y_isE, ↓Y_js0, ↓Y_jsC, ↓Y_jn, ne_0, ne_d, ne_u, ne_c, ne_x, dFmt, cs_u, cs_d, cs_o, cs_x, okOwn, List.all_cons, List.all_nil, wipeR, restR, ↓Y_itS, ↓Y_join, ↓Y_xf, ↓Y_itL, ↓Y_itT, ↓Y_itR1, ↓Y_itET, ↓Y_itR3, ↓Y_itZ, ↓Y_cnt, ↓Y_itEL, ↓Y_itR2,
  List.getElem?_cons_zero, List.getElem?_cons_succ, List.getElem?_nil, List.set_cons_zero, List.set_cons_succ, List.replicate_succ, List.replicate_zero, List.cons_append, List.nil_append, List.append_nil, List.length_cons, List.length_nil, List.map_nil, List.map_cons, List.tail_cons, List.head?_cons, List.head?_nil, Option.getD_some, Option.getD_none, Option.map_some, Option.map_none, Option.bind_some, Option.bind_none, List.take_succ_cons, List.take_zero,
  at_0, at_1, at_2, at_3, at_4, at_5, at_6, at_7, ix_30, ix_31, ix_32, outs, argSl, back, updc, lkS_c, lkS_n, lk1_u, lk1_d, lk1_x, lk1_s, celsOf, fz_l, fz_k, fz_t, fz_lac, fz_cli, fz_wea, fz_rat, fz_ste, fz_web, fz_sky, fz_hab, fz_dia, pu_0, pu_lac, pu_rat, pu_web, pu_hab, ex_if, ex_so, ex_sb, lk_b, lk_bo, lk_ob, lk_o, lk_c, ty_n, ty_b, ty_i, ty_s, ty_t, ty_l, ty_q, ty_o, String.reduceEq, reduceCtorEq, reduceIte, dAdd, dSub, dMul, dDiv, dDivN, dMod, dPow, dNeg, dLt, dLe, dGt, dGe, dIx, dFld, dEq, dNe, dIs, dIsNot, dIsB, dNotB, D.isN, gLen, gInt, gMax2, gMin2, gMax3, gMin3, PL.gTup, PL.gLst, gLstO, D.items, D.litems, D.titems, D.truth, fApp, fClr, Rv.lfree, D.lfree, D.lfrees, cCat, dAddS, dMulS, dCatT,
  decide_eq_true_eq, Bool.not_eq_true', decide_eq_false_iff_not, true_and, and_true, if_true, if_false, Bool.false_eq_true, ite_true, ite_false, Bool.and_eq_true, Bool.and_true, Bool.true_and, Nat.reduceAdd, Nat.reduceLeDiff, List.nodup_nil, List.nodup_cons, List.not_mem_nil, not_false_eq_true, and_self])
theorem mOkL {i j : Int} (h : -(2 ^ 64) < i ∧ i < 2 ^ 64) : mulOk i j := .inl h
theorem mOkR {i j : Int} (h : -(2 ^ 64) < j ∧ j < 2 ^ 64) : mulOk i j := .inr (.inl h)
theorem dOk {j : Int} (h1 : 0 < j) (h2 : j < 1073741824) : divOk j := ⟨h1, .inl h2⟩
/-- a pool: three ints -/
abbrev Po (x y z : Int) : Sl := .cel .par (.lst [.int x, .int y, .int z])
theorem y_cell (ns : List Int) (k : Int) (hk : 0 ≤ k) {K : Rv → List Sl → Prop} (h : ∀ c : Int, K (.d (.int c)) [.dat (.sq (ns.map .int)), .dat (.int k)]) : Y G_l_cell [.dat (.sq (ns.map .int)), .dat (.int k)] K NX := by
  unfold G_l_cell B_l_cell
  walk_at "ys"
  split
  · rename_i c
    try rw [List.length_map] at c
    obtain ⟨n, rfl⟩ := Int.eq_ofNat_of_zero_le hk
    have l : n < ns.length := by omega
    refine ⟨_, ?_, h (ns[n])⟩
    rw [at_lt n (by simpa using l)]
    simp [l]
  · exact ⟨mOkL (by omega), h _⟩
theorem y_pool (c : Int) {K : Rv → List Sl → Prop} (h : ∀ x y z : Int, K (.c (.lst [.int x, .int y, .int z])) [.dat (.int c)]) : Y G_l_pool [.dat (.int c)] K NX := by
  unfold G_l_pool B_l_pool
  walk_at "ys"
  refine ⟨by decide, ?_⟩
  split
  · exact ⟨by decide, by omega, h _ _ _⟩
  · split
    · exact ⟨mOkL (by omega), by omega, h _ _ _⟩
    · exact ⟨mOkL (by omega), by omega, h _ _ _⟩
theorem y_take (x y z s : Int) (h1 : 1 ≤ s) (h2 : s < 1000000000) {K : Rv → List Sl → Prop} (h : ∀ d x' y' z' : Int, 0 ≤ d → d < s → K (.d (.int d)) [Po x' y' z', .dat (.int s)]) : Y G_l_take [Po x y z, .dat (.int s)] K NX := by
  unfold G_l_take B_l_take
  walk_at "ys"
  split
  · exact ⟨by omega, dOk (by omega) (by omega), h _ _ _ _ (Int.emod_nonneg _ (by omega)) (Int.emod_lt_of_pos _ (by omega))⟩
  · refine ⟨mOkL (by omega), by omega, ?_⟩
    generalize e1 : (y + 48271 * (z + 1) + 12345) % 2147483647 = u
    have u1 : 0 ≤ u ∧ u < 2147483647 := by omega
    refine ⟨mOkL (by omega), mOkL (by omega), by omega, ?_⟩
    generalize e2 : (u * u + 16807 * (z + 1) + 7) % 2147483629 = v
    have v1 : 0 ≤ v ∧ v < 2147483629 := by
      rw [← e2]; exact ⟨Int.emod_nonneg _ (by omega), Int.emod_lt_of_pos _ (by omega)⟩
    refine ⟨mOkL (by omega), mOkL (by omega), by omega, dOk (by omega) (by omega), by omega, ?_⟩
    exact h _ _ _ _ (Int.emod_nonneg _ (by omega)) (Int.emod_lt_of_pos _ (by omega))
/-- kinds as data -/
def kd (k : Int × Int) : D := .tup [.int k.1, .int k.2]
def kl (ks : List (Int × Int)) : List D := ks.map kd
theorem kl_snoc (ks : List (Int × Int)) (w g : Int) : kl ks ++ [.tup [.int w, .int g]] = kl (ks ++ [(w, g)]) := by simp [kl, kd]
theorem kl_len (ks : List (Int × Int)) : (kl ks).length = ks.length := List.length_map _
def Gd (p n : Int) (ks : List (Int × Int)) : Prop := ∀ k ∈ ks, 1 ≤ k.1 ∧ k.1 ≤ p ∧ 1 ≤ k.2 ∧ k.2 ≤ n
theorem Gd.snoc {p n : Int} {ks : List (Int × Int)} {w g : Int} (h : Gd p n ks) (a : 1 ≤ w) (b : w ≤ p) (c : 1 ≤ g) (d : g ≤ n) : Gd p n (ks ++ [(w, g)]) := by
  intro k hk
  rcases List.mem_append.mp hk with q | q
  · exact h k q
  · simp at q; subst q; exact ⟨a, b, c, d⟩
theorem rng_len (lo : Int) (n : Nat) : (rngD lo n).length = n := by simp [rngD]

theorem y_check_kind (w g : Int) (w1 : 1 ≤ w) (w2 : w ≤ 16) (g1 : 1 ≤ g) (g2 : g ≤ 120) {K : Rv → List Sl → Prop} {X : XC} (h : K (.d .non) [.dat (.int w), .dat (.int g)]) : Y G_f_check_kind [.dat (.int w), .dat (.int g)] K X := by
  unfold G_f_check_kind B_f_check_kind
  walk_at "ys"
  simp only [w1, w2, g1, g2, decide_true, Bool.not_true, if_true, if_false, Bool.false_eq_true]
  exact h
theorem y_check_kinds (ks : List (Int × Int)) (hg : Gd 16 120 ks) (hl : ks.length ≤ 300) {K : Rv → List Sl → Prop} {X : XC} (h : K (.d .non) [.dat (.lst (kl ks))]) : Y G_f_check_kinds [.dat (.lst (kl ks))] K X := by
  unfold G_f_check_kinds B_f_check_kinds
  walk_at "ys"
  rw [kl_len, if_neg (by omega)]
  refine Y_loop (I := fun r ρ => ∃ (ms : List (Int × Int)) (s1 s2 : Sl), r = kl ms ∧ (∀ k ∈ ms, k ∈ ks) ∧ ρ = [.dat (.lst (kl ks)), s1, s2] ∧ canSet s1 = true ∧ canSet s2 = true)
    ⟨ks, .un, .un, rfl, fun _ h => h, rfl, rfl, rfl⟩ (fun e r ρ => ?_) (fun ρ => ?_)
  · rintro ⟨ms, s1, s2, er, sub, rfl, c1, c2⟩
    cases ms with
    | nil => cases er
    | cons k ms =>
      obtain ⟨w, g⟩ := k
      cases er
      have := hg (w, g) (sub _ List.mem_cons_self)
      unfold kd
      walk_at "ys"
      refine ⟨c1, c2, ?_⟩
      refine y_check_kind _ _ this.1 this.2.1 this.2.2.1 this.2.2.2 ?_
      exact ⟨ms, _, _, rfl, fun k hk => sub k (List.mem_cons_of_mem _ hk), rfl, rfl, rfl⟩
  · rintro ⟨ms, s1, s2, er, sub, rfl, c1, c2⟩
    walk_at "ys"
    exact h

/-- pairs (w, g): the least g of those with a first number of at least w, 0 without any -/
def lr (ks : List (Int × Int)) (w : Int) : Int := ks.foldl (fun best k => if k.1 ≥ w ∧ (best = 0 ∨ k.2 < best) then k.2 else best) 0
def Pos2 (ks : List (Int × Int)) : Prop := ∀ k ∈ ks, 1 ≤ k.2
/-- what the fold has when it starts from a number -/
theorem lr_from {w : Int} : ∀ (ks : List (Int × Int)) (b : Int), Pos2 ks → 0 ≤ b →
    let r := ks.foldl (fun best k => if k.1 ≥ w ∧ (best = 0 ∨ k.2 < best) then k.2 else best) b
    0 ≤ r ∧ (b ≠ 0 → r ≠ 0 ∧ r ≤ b) ∧ (∀ k ∈ ks, k.1 ≥ w → r ≠ 0 ∧ r ≤ k.2) ∧ (r = b ∨ ∃ k ∈ ks, k.1 ≥ w ∧ r = k.2)
  | [], b, _, hb => ⟨hb, fun h => ⟨h, Int.le_refl _⟩, fun _ h => by simp at h, .inl rfl⟩
  | k :: ks, b, hp, hb => by
    have hk := hp k List.mem_cons_self
    have hp' : Pos2 ks := fun x hx => hp x (List.mem_cons_of_mem _ hx)
    have h0 : 0 ≤ (if k.1 ≥ w ∧ (b = 0 ∨ k.2 < b) then k.2 else b) := by split <;> omega
    obtain ⟨i1, i2, i3, i4⟩ := lr_from (w := w) ks _ hp' h0
    simp only [List.foldl_cons]
    refine ⟨i1, fun hb0 => ?_, fun x hx hw => ?_, ?_⟩
    · by_cases c : k.1 ≥ w ∧ (b = 0 ∨ k.2 < b)
      · rw [if_pos c] at i2 ⊢
        obtain ⟨j1, j2⟩ := i2 (by omega)
        exact ⟨j1, by omega⟩
      · rw [if_neg c] at i2 ⊢
        exact i2 hb0
    · rcases List.mem_cons.mp hx with rfl | hx
      · by_cases c : x.1 ≥ w ∧ (b = 0 ∨ x.2 < b)
        · rw [if_pos c] at i2 ⊢
          obtain ⟨j1, j2⟩ := i2 (by omega)
          exact ⟨j1, by omega⟩
        · rw [if_neg c] at i2 ⊢
          obtain ⟨j1, j2⟩ := i2 (by omega)
          exact ⟨j1, by omega⟩
      · exact i3 x hx hw
    · rcases i4 with e | ⟨x, hx, h1, h2⟩
      · by_cases c : k.1 ≥ w ∧ (b = 0 ∨ k.2 < b)
        · rw [if_pos c] at e ⊢
          exact .inr ⟨k, List.mem_cons_self, c.1, e⟩
        · rw [if_neg c] at e ⊢
          exact .inl e
      · exact .inr ⟨x, List.mem_cons_of_mem _ hx, h1, h2⟩
theorem lr_nn {ks : List (Int × Int)} (hp : Pos2 ks) (w : Int) : 0 ≤ lr ks w := (lr_from (w := w) ks 0 hp (by decide)).1
theorem lr_le {ks : List (Int × Int)} (hp : Pos2 ks) {w : Int} {k : Int × Int} (hk : k ∈ ks) (h : w ≤ k.1) : 0 < lr ks w ∧ lr ks w ≤ k.2 := by
  have z := lr_from (w := w) ks 0 hp (by decide)
  have z2 := z.2.2.1 k hk h
  have z1 := z.1
  show 0 < List.foldl _ _ _ ∧ List.foldl _ _ _ ≤ k.2
  exact ⟨by omega, z2.2⟩
theorem lr_mem {ks : List (Int × Int)} (hp : Pos2 ks) {w : Int} (h : 0 < lr ks w) : ∃ k ∈ ks, w ≤ k.1 ∧ lr ks w = k.2 := by
  rcases (lr_from (w := w) ks 0 hp (by decide)).2.2.2 with e | ⟨k, h1, h2, h3⟩
  · exact absurd (show lr ks w = 0 from e) (by omega)
  · exact ⟨k, h1, h2, h3⟩
/-- said without the fold -/
theorem lr_iff {ks : List (Int × Int)} (hp : Pos2 ks) {w r : Int} : lr ks w = r ↔ (r = 0 ∧ ∀ k ∈ ks, k.1 < w) ∨ (0 < r ∧ (∃ k ∈ ks, w ≤ k.1 ∧ k.2 = r) ∧ ∀ k ∈ ks, w ≤ k.1 → r ≤ k.2) := by
  constructor
  · rintro rfl
    by_cases h : 0 < lr ks w
    · obtain ⟨k, h1, h2, h3⟩ := lr_mem hp h
      exact .inr ⟨h, ⟨k, h1, h2, h3.symm⟩, fun k hk hw => (lr_le hp hk hw).2⟩
    · refine .inl ⟨by have := lr_nn hp w; omega, fun k hk => ?_⟩
      rcases Int.lt_or_le k.1 w with c | c
      · exact c
      · exact absurd (lr_le hp hk c).1 h
  · rintro (⟨rfl, h⟩ | ⟨h0, ⟨k, hk, hw, e⟩, h⟩)
    · by_cases c : 0 < lr ks w
      · obtain ⟨k, h1, h2, _⟩ := lr_mem hp c
        have := h k h1
        omega
      · have := lr_nn hp w
        omega
    · obtain ⟨c1, c2⟩ := lr_le hp hk hw
      obtain ⟨k2, h1, h2, h3⟩ := lr_mem hp c1
      have := h k2 h1 h2
      omega
/-- the plain list -/
def keepW (ks : List (Int × Int)) (w : Int) : Bool := decide (0 < lr ks w) && decide (lr ks w ≠ lr ks (w + 1))
def upTo (n : Nat) : List Int := (List.range n).map fun (i : Nat) => (i : Int) + 1
def pl (ks : List (Int × Int)) : List (Int × Int) := ((upTo 16).filter (keepW ks)).map fun w => (w, lr ks w)
theorem lr_mono {ks : List (Int × Int)} (hp : Pos2 ks) {v w : Int} (h : v ≤ w) : lr ks w = 0 ∨ (0 < lr ks v ∧ lr ks v ≤ lr ks w) := by
  by_cases c : 0 < lr ks w
  · obtain ⟨k, h1, h2, h3⟩ := lr_mem hp c
    have := lr_le hp h1 (w := v) (by omega)
    exact .inr ⟨this.1, by omega⟩
  · have := lr_nn hp w
    exact .inl (by omega)
/-- where it turns there is a pair with just this first number -/
theorem keep_mem {ks : List (Int × Int)} (hp : Pos2 ks) {w : Int} (h : keepW ks w = true) : ∃ k ∈ ks, k.1 = w ∧ k.2 = lr ks w := by
  unfold keepW at h
  (simp only [Bool.and_eq_true, decide_eq_true_eq] at h)
  obtain ⟨k, h1, h2, h3⟩ := lr_mem hp h.1
  rcases Int.lt_or_le w k.1 with c | c
  · have z := lr_le hp h1 (w := w + 1) (by omega)
    rcases lr_mono hp (show w ≤ w + 1 by omega) with y | y <;> omega
  · exact ⟨k, h1, by omega, h3.symm⟩
/-- between first numbers nothing turns -/
theorem lr_gap {ks : List (Int × Int)} (hp : Pos2 ks) {v w : Int} (h : v ≤ w) (hn : ∀ k ∈ ks, ¬ (v ≤ k.1 ∧ k.1 < w)) : lr ks v = lr ks w := by
  refine (lr_iff hp).mpr ?_
  by_cases c : 0 < lr ks w
  · obtain ⟨k, h1, h2, h3⟩ := lr_mem hp c
    refine .inr ⟨c, ⟨k, h1, by omega, h3.symm⟩, fun x hx hv => ?_⟩
    rcases Int.lt_or_le x.1 w with d | d
    · exact absurd ⟨hv, d⟩ (hn x hx)
    · exact (lr_le hp hx d).2
  · have z := lr_nn hp w
    refine .inl ⟨by omega, fun k hk => ?_⟩
    rcases Int.lt_or_le k.1 v with d | d
    · exact d
    · rcases Int.lt_or_le k.1 w with e | e
      · exact absurd ⟨d, e⟩ (hn k hk)
      · exact absurd (lr_le hp hk e).1 c
/-- two rising lists with the same items are one -/
theorem rise_ext : ∀ {xs ys : List Int}, xs.Pairwise (· < ·) → ys.Pairwise (· < ·) → (∀ a, a ∈ xs ↔ a ∈ ys) → xs = ys
  | [], [], _, _, _ => rfl
  | [], y :: ys, _, _, h => absurd ((h y).mpr List.mem_cons_self) (by simp)
  | x :: xs, [], _, _, h => absurd ((h x).mp List.mem_cons_self) (by simp)
  | x :: xs, y :: ys, h1, h2, h => by
    rw [List.pairwise_cons] at h1 h2
    have e : x = y := by
      rcases List.mem_cons.mp ((h x).mp List.mem_cons_self) with e | e
      · exact e
      · rcases List.mem_cons.mp ((h y).mpr List.mem_cons_self) with e2 | e2
        · exact e2.symm
        · have a := h1.1 y e2
          have b := h2.1 x e
          omega
    subst e
    rw [rise_ext h1.2 h2.2 fun a => ?_]
    constructor
    · intro ha
      rcases List.mem_cons.mp ((h a).mp (List.mem_cons_of_mem _ ha)) with e | e
      · subst e
        exact absurd (h1.1 a ha) (Int.lt_irrefl _)
      · exact e
    · intro ha
      rcases List.mem_cons.mp ((h a).mpr (List.mem_cons_of_mem _ ha)) with e | e
      · subst e
        exact absurd (h2.1 a ha) (Int.lt_irrefl _)
      · exact e
theorem upTo_mem {n : Nat} {w : Int} : w ∈ upTo n ↔ 1 ≤ w ∧ w ≤ n := by
  unfold upTo
  rw [List.mem_map]
  constructor
  · rintro ⟨i, hi, rfl⟩
    have := List.mem_range.mp hi
    omega
  · rintro ⟨h1, h2⟩
    exact ⟨(w - 1).toNat, List.mem_range.mpr (by omega), by omega⟩
theorem upTo_rise (n : Nat) : (upTo n).Pairwise (· < ·) := by
  unfold upTo
  rw [List.pairwise_map]
  exact List.Pairwise.imp (R := fun a b : Nat => a < b) (fun {a b} (h : a < b) => show (a : Int) + 1 < (b : Int) + 1 by omega) List.pairwise_lt_range
/-- the kept ones of all first numbers are the kept ones of one to sixteen -/
theorem pl_of_keys {ks : List (Int × Int)} (hp : Pos2 ks) (hw : ∀ k ∈ ks, 1 ≤ k.1 ∧ k.1 ≤ 16) {ws : List Int} (hr : ws.Pairwise (· < ·)) (hm : ∀ w, w ∈ ws ↔ ∃ k ∈ ks, k.1 = w) : (ws.filter (keepW ks)).map (fun w => (w, lr ks w)) = pl ks := by
  unfold pl
  congr 1
  refine rise_ext (hr.filter _) ((upTo_rise 16).filter _) fun a => ?_
  rw [List.mem_filter, List.mem_filter, upTo_mem, hm]
  constructor
  · rintro ⟨⟨k, hk, rfl⟩, h⟩
    have := hw k hk
    exact ⟨by omega, h⟩
  · rintro ⟨_, h⟩
    obtain ⟨k, hk, e, _⟩ := keep_mem hp h
    exact ⟨⟨k, hk, e⟩, h⟩
/-- the least second number of the pairs with just this first number -/
def mw (ks : List (Int × Int)) (w : Int) : Option Int := ks.foldl (fun o k => if k.1 = w then some (o.elim k.2 (min k.2)) else o) none
theorem mw_snoc (ks : List (Int × Int)) (k : Int × Int) (w : Int) : mw (ks ++ [k]) w = if k.1 = w then some ((mw ks w).elim k.2 (min k.2)) else mw ks w := by
  unfold mw
  rw [List.foldl_append]
  rfl
theorem mw_spec {w : Int} : ∀ (ks : List (Int × Int)) (o : Option Int), (∀ m, ks.foldl (fun o k => if k.1 = w then some (o.elim k.2 (min k.2)) else o) o = some m →
    (o = some m ∨ ∃ k ∈ ks, k.1 = w ∧ k.2 = m) ∧ (∀ x, o = some x → m ≤ x) ∧ ∀ k ∈ ks, k.1 = w → m ≤ k.2) ∧ (ks.foldl (fun o k => if k.1 = w then some (o.elim k.2 (min k.2)) else o) o = none → o = none ∧ ∀ k ∈ ks, k.1 ≠ w)
  | [], o => ⟨fun m h => ⟨.inl h, fun x hx => by
      have h' : o = some m := h
      rw [hx] at h'
      cases h'
      exact Int.le_refl _, fun _ h => by simp at h⟩, fun h => ⟨h, fun _ h => by simp at h⟩⟩
  | k :: ks, o => by
    obtain ⟨i1, i2⟩ := mw_spec (w := w) ks (if k.1 = w then some (o.elim k.2 (min k.2)) else o)
    simp only [List.foldl_cons]
    constructor
    · intro m hm
      obtain ⟨j1, j2, j3⟩ := i1 m hm
      by_cases c : k.1 = w
      · rw [if_pos c] at j1 j2
        have j2' := j2 _ rfl
        cases o with
        | none =>
          have j4 : m ≤ k.2 := j2'
          refine ⟨?_, ⟨fun x (hx : none = some x) => (nomatch hx), fun x hx hw => ?_⟩⟩
          · rcases j1 with e | ⟨x, hx, h⟩
            · exact .inr ⟨k, List.mem_cons_self, c, Option.some.inj e⟩
            · exact .inr ⟨x, List.mem_cons_of_mem _ hx, h⟩
          · rcases List.mem_cons.mp hx with rfl | hx
            · exact j4
            · exact j3 x hx hw
        | some y =>
          have j4 : m ≤ min k.2 y := j2'
          refine ⟨?_, fun x hx => ?_, fun x hx hw => ?_⟩
          · rcases j1 with e | ⟨x, hx, h⟩
            · have e' : min k.2 y = m := Option.some.inj e
              rcases Int.le_total k.2 y with z | z
              · exact .inr ⟨k, List.mem_cons_self, c, by omega⟩
              · exact .inl (by congr 1; omega)
            · exact .inr ⟨x, List.mem_cons_of_mem _ hx, h⟩
          · cases hx
            omega
          · rcases List.mem_cons.mp hx with rfl | hx
            · omega
            · exact j3 x hx hw
      · rw [if_neg c] at j1 j2
        refine ⟨?_, j2, fun x hx hw => ?_⟩
        · rcases j1 with e | ⟨x, hx, h⟩
          · exact .inl e
          · exact .inr ⟨x, List.mem_cons_of_mem _ hx, h⟩
        · rcases List.mem_cons.mp hx with rfl | hx
          · exact absurd hw c
          · exact j3 x hx hw
    · intro hm
      obtain ⟨j1, j2⟩ := i2 hm
      by_cases c : k.1 = w
      · rw [if_pos c] at j1
        cases j1
      · rw [if_neg c] at j1
        refine ⟨j1, fun x hx => ?_⟩
        (rcases List.mem_cons.mp hx with rfl | hx)
        · exact c
        · exact j2 x hx
theorem mw_some {ks : List (Int × Int)} {w m : Int} (h : mw ks w = some m) : (∃ k ∈ ks, k.1 = w ∧ k.2 = m) ∧ ∀ k ∈ ks, k.1 = w → m ≤ k.2 := by
  obtain ⟨h1, _, h3⟩ := (mw_spec ks none).1 m h
  rcases h1 with h1 | h1
  · cases h1
  · exact ⟨h1, h3⟩
theorem mw_of {ks : List (Int × Int)} {w : Int} (h : ∃ k ∈ ks, k.1 = w) : ∃ m, mw ks w = some m := by
  cases e : mw ks w with
  | some m => exact ⟨m, rfl⟩
  | none =>
    obtain ⟨k, hk, hw⟩ := h
    exact absurd hw (((mw_spec ks none).2 e).2 k hk)
/-- how the least run goes on downwards -/
theorem lr_down {ks : List (Int × Int)} (hp : Pos2 ks) {w m : Int} (h : mw ks w = some m) : lr ks w = if lr ks (w + 1) = 0 then m else min m (lr ks (w + 1)) := by
  obtain ⟨⟨k, hk, e1, e2⟩, h2⟩ := mw_some h
  have hm := hp k hk
  refine (lr_iff hp).mpr (.inr ?_)
  by_cases c : lr ks (w + 1) = 0
  · rw [if_pos c]
    refine ⟨by omega, ⟨k, hk, by omega, e2⟩, fun x hx hw => ?_⟩
    rcases Int.lt_or_le w x.1 with d | d
    · have := (lr_le hp hx (w := w + 1) (by omega)).1
      omega
    · exact h2 x hx (by omega)
  · rw [if_neg c]
    have cp : 0 < lr ks (w + 1) := by have := lr_nn hp (w + 1); omega
    obtain ⟨k2, g1, g2, g3⟩ := lr_mem hp cp
    refine ⟨by omega, ?_, fun x hx hw => ?_⟩
    · rcases Int.le_total m (lr ks (w + 1)) with d | d
      · exact ⟨k, hk, by omega, by omega⟩
      · exact ⟨k2, g1, by omega, by omega⟩
    · rcases Int.lt_or_le w x.1 with d | d
      · have := (lr_le hp hx (w := w + 1) (by omega)).2
        omega
      · have := h2 x hx (by omega)
        omega
/-- the first numbers from above: what has been kept of the first i -/
def stI (ks : List (Int × Int)) (ys : List Int) (i : Nat) : List (Int × Int) := ((ys.take i).filter (keepW ks)).map fun w => (w, lr ks w)
theorem stI_succ {ks : List (Int × Int)} {ys : List Int} {i : Nat} {w : Int} (h : ys[i]? = some w) : stI ks ys (i + 1) = stI ks ys i ++ (if keepW ks w = true then [(w, lr ks w)] else []) := by
  unfold stI
  rw [List.take_add_one, h, List.filter_append, List.map_append]
  congr 1
  show (List.filter (keepW ks) [w]).map _ = _
  by_cases c : keepW ks w = true
  · rw [if_pos c, List.filter_cons_of_pos c]
    rfl
  · rw [if_neg c, List.filter_cons_of_neg c]
    rfl
/-- behind the one at i nothing stands between it and the next one -/
theorem desc_gap {ys : List Int} (hd : ys.Pairwise (· > ·)) {i : Nat} {v w : Int} (h1 : ys[i]? = some v) (h2 : ys[i + 1]? = some w) : w < v ∧ ∀ y ∈ ys, ¬ (w + 1 ≤ y ∧ y < v) := by
  obtain ⟨l1, e1⟩ := List.getElem?_eq_some_iff.mp h1
  obtain ⟨l2, e2⟩ := List.getElem?_eq_some_iff.mp h2
  have hp := List.pairwise_iff_getElem.mp hd
  refine ⟨?_, fun y hy => ?_⟩
  · have := hp i (i + 1) l1 l2 (Nat.lt_succ_self i)
    omega
  · obtain ⟨j, hj, e⟩ := List.mem_iff_getElem.mp hy
    rintro ⟨z1, z2⟩
    rcases Nat.lt_trichotomy j i with c | c | c
    · have := hp j i hj l1 c
      omega
    · subst c
      omega
    · rcases Nat.lt_or_ge (i + 1) j with d | d
      · have := hp (i + 1) j l2 hj d
        omega
      · have : j = i + 1 := by omega
        subst this
        omega
theorem desc_top {ys : List Int} (hd : ys.Pairwise (· > ·)) {w : Int} (h : ys[0]? = some w) : ∀ y ∈ ys, y ≤ w := by
  cases ys with
  | nil => cases h
  | cons z ys =>
    cases h
    intro y hy
    (rcases List.mem_cons.mp hy with rfl | hy)
    · exact Int.le_refl _
    · exact Int.le_of_lt ((List.pairwise_cons.mp hd).1 y hy)
theorem lr_top {ks : List (Int × Int)} (hp : Pos2 ks) {w : Int} (h : ∀ k ∈ ks, k.1 ≤ w) : lr ks (w + 1) = 0 := (lr_iff hp).mpr (.inl ⟨rfl, fun k hk => by have := h k hk; omega⟩)
/-- the turn at the place i: what stands last so far, and what it says -/
theorem st_turn {ks : List (Int × Int)} (hp : Pos2 ks) {ys : List Int} (hd : ys.Pairwise (· > ·)) (hm : ∀ w, w ∈ ys ↔ ∃ k ∈ ks, k.1 = w) : ∀ (i : Nat) (w m : Int), ys[i]? = some w → mw ks w = some m →
    (stI ks ys i = [] ∧ keepW ks w = true ∧ lr ks w = m) ∨ ∃ init v, stI ks ys i = init ++ [v] ∧ ((m < v.2 ∧ keepW ks w = true ∧ lr ks w = m) ∨ (¬ m < v.2 ∧ keepW ks w = false ∧ lr ks w = v.2))
  | 0, w, m, h, e => by
    have top : lr ks (w + 1) = 0 := lr_top hp fun k hk => desc_top hd h _ ((hm _).mpr ⟨k, hk, rfl⟩)
    have dn := lr_down hp e
    rw [if_pos top] at dn
    obtain ⟨⟨k, hk, _, e2⟩, _⟩ := mw_some e
    have := hp k hk
    refine .inl ⟨rfl, ?_, dn⟩
    unfold keepW
    rw [top, dn]
    (simp only [Bool.and_eq_true, decide_eq_true_eq])
    omega
  | i + 1, w, m, h, e => by
    obtain ⟨l, _⟩ := List.getElem?_eq_some_iff.mp h
    obtain ⟨v, hv⟩ : ∃ v, ys[i]? = some v := ⟨_, List.getElem?_eq_getElem (by omega)⟩
    obtain ⟨mv, ev⟩ := mw_of ((hm v).mp (List.mem_of_getElem? hv))
    obtain ⟨g1, g2⟩ := desc_gap hd hv h
    have gap : lr ks (w + 1) = lr ks v := lr_gap hp (by omega) fun k hk => g2 _ ((hm _).mpr ⟨k, hk, rfl⟩)
    obtain ⟨⟨kv, hkv, e3, _⟩, _⟩ := mw_some ev
    have vp := (lr_le hp hkv (w := v) (by omega)).1
    have dn := lr_down hp e
    rw [gap, if_neg (by omega)] at dn
    obtain ⟨⟨k, hk, _, e2⟩, _⟩ := mw_some e
    have mp := hp k hk
    have fin : ∀ {init : List (Int × Int)} {x : Int × Int}, stI ks ys (i + 1) = init ++ [x] → x.2 = lr ks v → (m < x.2 ∧ keepW ks w = true ∧ lr ks w = m) ∨ (¬ m < x.2 ∧ keepW ks w = false ∧ lr ks w = x.2) := by
      intro init x _ ex
      rw [ex]
      by_cases c : m < lr ks v
      · refine .inl ⟨c, ?_, by omega⟩
        unfold keepW
        rw [gap]
        (simp only [Bool.and_eq_true, decide_eq_true_eq])
        omega
      · refine .inr ⟨c, ?_, by omega⟩
        unfold keepW
        rw [gap, show lr ks w = lr ks v by omega]
        simp
    right
    rcases st_turn hp hd hm i v mv hv ev with ⟨s0, kv1, e1⟩ | ⟨init, x, s1, ⟨_, kv1, e1⟩ | ⟨_, kv1, e1⟩⟩
    · have s : stI ks ys (i + 1) = [] ++ [(v, lr ks v)] := by rw [stI_succ hv, s0, if_pos kv1]
      exact ⟨_, _, s, fin s rfl⟩
    · have s : stI ks ys (i + 1) = (init ++ [x]) ++ [(v, lr ks v)] := by rw [stI_succ hv, s1, if_pos kv1]
      exact ⟨_, _, s, fin s rfl⟩
    · have s : stI ks ys (i + 1) = init ++ [x] := by rw [stI_succ hv, s1, if_neg (by rw [kv1]; simp), List.append_nil]
      exact ⟨_, _, s, fin s e1.symm⟩
theorem st_end {ks : List (Int × Int)} (hp : Pos2 ks) (hw : ∀ k ∈ ks, 1 ≤ k.1 ∧ k.1 ≤ 16) {ys : List Int} (hd : ys.Pairwise (· > ·)) (hm : ∀ w, w ∈ ys ↔ ∃ k ∈ ks, k.1 = w) : (stI ks ys ys.length).reverse = pl ks := by
  unfold stI
  rw [List.take_length, ← List.map_reverse, ← List.filter_reverse]
  exact pl_of_keys hp hw (List.pairwise_reverse.mpr hd) fun w => by rw [List.mem_reverse, hm]

theorem Gd.pos {p n : Int} {ks : List (Int × Int)} (h : Gd p n ks) : Pos2 ks := fun k hk => (h k hk).2.2.1
/-- what the dict knows of the pairs -/
def DI (ks : List (Int × Int)) (kvs : List (Key × D)) : Prop := ∃ ws : List Int, kvs.map (·.1) = ws.map Sum.inl ∧ ws.Nodup ∧ (∀ w, w ∈ ws ↔ ∃ k ∈ ks, k.1 = w) ∧ (∀ w, dval kvs (Sum.inl w) = (mw ks w).map D.int) ∧ ws.length ≤ ks.length
theorem DI.nil : DI [] [] := ⟨[], rfl, .nil, fun w => by simp, fun w => rfl, by simp⟩
theorem DI.len {ks : List (Int × Int)} {kvs : List (Key × D)} (h : DI ks kvs) : kvs.length ≤ ks.length := by
  obtain ⟨ws, h1, _, _, _, h5⟩ := h
  have := congrArg List.length h1
  rw [List.length_map, List.length_map] at this
  omega
theorem DI.put {ks : List (Int × Int)} {kvs : List (Key × D)} {k : Int × Int} (h : DI ks kvs) : DI (ks ++ [k]) (dput kvs (Sum.inl k.1) (.int ((mw ks k.1).elim k.2 (min k.2)))) := by
  obtain ⟨ws, h1, h2, h3, h4, h5⟩ := h
  have hin : (Sum.inl k.1 : Key) ∈ kvs.map (·.1) ↔ k.1 ∈ ws := by
    rw [h1, List.mem_map]
    constructor
    · rintro ⟨x, hx, e⟩
      cases e
      exact hx
    · exact fun h => ⟨_, h, rfl⟩
  have val : ∀ w, dval (dput kvs (Sum.inl k.1) (.int ((mw ks k.1).elim k.2 (min k.2)))) (Sum.inl w) = (mw (ks ++ [k]) w).map D.int := fun w => by
    rw [dval_put, mw_snoc]
    by_cases e : k.1 = w
    · subst e
      rw [if_pos rfl, if_pos rfl]
      rfl
    · rw [if_neg (fun z => e (Sum.inl.inj z).symm), if_neg e, h4]
  by_cases c : k.1 ∈ ws
  · refine ⟨ws, by rw [dput_in (hin.mpr c), h1], h2, fun w => ?_, val, by simp; omega⟩
    rw [h3]
    constructor
    · rintro ⟨x, hx, e⟩
      exact ⟨x, List.mem_append_left _ hx, e⟩
    · rintro ⟨x, hx, e⟩
      (rcases List.mem_append.mp hx with hx | hx)
      · exact ⟨x, hx, e⟩
      · have e2 : x = k := by simpa using hx
        subst e2
        rw [← e]
        exact (h3 _).mp c
  · refine ⟨ws ++ [k.1], by rw [dput_out (fun z => c (hin.mp z)), h1, List.map_append]; rfl, ?_, fun w => ?_, val, by simp; omega⟩
    · rw [List.nodup_append]
      refine ⟨h2, by simp, fun a ha b hb => ?_⟩
      have e2 : b = k.1 := by simpa using hb
      subst e2
      exact fun z => c (z ▸ ha)
    · rw [List.mem_append, h3]
      constructor
      · rintro (⟨x, hx, e⟩ | hx)
        · exact ⟨x, List.mem_append_left _ hx, e⟩
        · have e2 : w = k.1 := by simpa using hx
          exact ⟨k, by simp, e2.symm⟩
      · rintro ⟨x, hx, e⟩
        (rcases List.mem_append.mp hx with hx | hx)
        · exact .inl ⟨x, hx, e⟩
        · have e2 : x = k := by simpa using hx
          subst e2
          exact .inr (by simp [e])
theorem at_last {α : Type} (l : List α) (a : α) : atI (l ++ [a]) (-1) = some a := by
  unfold atI ixN
  rw [if_neg (by omega), if_pos (by simp; omega)]
  simp only [List.length_append, List.length_singleton, Option.bind_some]
  rw [show (-1 + ((l.length + 1 : Nat) : Int)).toNat = l.length by omega]
  simp
theorem y_plain (ks : List (Int × Int)) (hg : Gd 16 120 ks) (hl : ks.length ≤ 300) {K : Rv → List Sl → Prop} {X : XC} (h : K (.c (.lst (kl (pl ks)))) [.dat (.lst (kl ks))]) : Y G_f_plain_list [.dat (.lst (kl ks))] K X := by
  unfold G_f_plain_list B_f_plain_list
  walk_at "ys"
  refine Y_loop (I := fun r ρ => ∃ (dn rest : List (Int × Int)) (kvs : List (Key × D)) (s2 s3 : Sl), ks = dn ++ rest ∧ r = kl rest ∧ DI dn kvs ∧ ρ = [.dat (.lst (kl ks)), .cel .own (.dK kvs), s2, s3, .un] ∧ canSet s2 = true ∧ canSet s3 = true)
    ⟨[], ks, [], .un, .un, rfl, rfl, DI.nil, rfl, rfl, rfl⟩ (fun e r ρ => ?_) (fun ρ => ?_)
  · rintro ⟨dn, rest, kvs, s2, s3, ek, er, hD, rfl, c2, c3⟩
    cases rest with
    | nil => cases er
    | cons k rest =>
      obtain ⟨w, g⟩ := k
      cases er
      have step := hD.put (k := (w, g))
      have hv : dval kvs (Sum.inl w) = (mw dn w).map D.int := let ⟨_, _, _, _, z, _⟩ := hD; z w
      have hn : kvs.length < 16777216 := by have := hD.len; have := congrArg List.length ek; simp at this; omega
      unfold kd
      walk_at "ys"
      refine ⟨c2, c3, ?_⟩
      have fin : ∀ m, m = (mw dn w).elim g (min g) → ∃ (dn rest' : List (Int × Int)) (kvs' : List (Key × D)) (s2 s3 : Sl), ks = dn ++ rest' ∧ kl rest = kl rest' ∧ DI dn kvs' ∧ [Sl.dat (.lst (kl ks)), .cel .own (.dK (dput kvs (Sum.inl w) (.int m))), .dat (.int w), .dat (.int g), .un] = [.dat (.lst (kl ks)), .cel .own (.dK kvs'), s2, s3, .un] ∧ canSet s2 = true ∧ canSet s3 = true := by
        rintro m rfl
        exact ⟨dn ++ [(w, g)], rest, _, _, _, by rw [ek]; simp, rfl, step, rfl, rfl, rfl⟩
      rw [hv]
      cases hm : mw dn w with
      | none =>
        walk_at "ys"
        refine ⟨hn, fin _ ?_⟩
        rw [hm]
        show min g g = g
        omega
      | some m =>
        walk_at "ys"
        refine ⟨hn, fin _ ?_⟩
        rw [hm]; rfl
  · rintro ⟨dn, rest, kvs, s2, s3, ek, er, hD, rfl, c2, c3⟩
    cases rest with
    | cons => cases er
    | nil =>
    rw [List.append_nil] at ek
    subst ek
    obtain ⟨ws, w1, w2, w3, w4, w5⟩ := id hD
    walk_at "ys"
    refine ⟨_, keysI_of w1, ?_⟩
    have yp := down_perm ws
    have ydesc : (down ws).Pairwise (· > ·) := (List.pairwise_and_iff.mpr ⟨down_srt ws, yp.nodup_iff.mpr w2⟩).imp fun {a b} h => by
      have h1 : a ≥ b := h.1
      have h2 : a ≠ b := h.2
      show a > b
      omega
    have ymem : ∀ w, w ∈ down ws ↔ ∃ k ∈ ks, k.1 = w := fun w => yp.mem_iff.trans (w3 w)
    have yl : (down ws).length = ws.length := yp.length_eq
    generalize down ws = yy at *
    refine Y_loop (I := fun r ρ => ∃ (i : Nat) (s2 : Sl), r = (yy.drop i).map D.int ∧ i ≤ yy.length ∧ ρ = [.dat (.lst (kl ks)), .cel .own (.dK kvs), s2, s3, .cel .own (.lst (kl (stI ks yy i)))] ∧ canSet s2 = true)
      ⟨0, s2, rfl, Nat.zero_le _, rfl, c2⟩ (fun e r ρ => ?_) (fun ρ => ?_)
    · rintro ⟨i, s2, er, il, rfl, c2⟩
      have hi : i < yy.length := by
        rcases Nat.lt_or_ge i yy.length with c | c
        · exact c
        · rw [List.drop_eq_nil_of_le c] at er; cases er
      have hw : yy[i]? = some yy[i] := List.getElem?_eq_getElem hi
      generalize yy[i] = w at hw
      have ed : yy.drop i = w :: yy.drop (i + 1) := by
        rw [List.drop_eq_getElem_cons hi]
        have := List.getElem?_eq_getElem hi
        rw [hw] at this
        cases this
        rfl
      rw [ed] at er
      cases er
      obtain ⟨m, em⟩ := mw_of ((ymem w).mp (List.mem_of_getElem? hw))
      have hval : dval kvs (Sum.inl w) = some (.int m) := by rw [w4, em]; rfl
      have sz : (stI ks yy i).length < 16777216 := by
        unfold stI
        try rw [List.length_map]
        exact Nat.lt_of_le_of_lt (List.length_filter_le _ _) (by rw [List.length_take]; omega)
      have sucT : keepW ks w = true → lr ks w = m → stI ks yy (i + 1) = stI ks yy i ++ [(w, m)] := fun c1 c2 => by rw [stI_succ hw, if_pos c1, c2]
      have sucF : keepW ks w = false → stI ks yy (i + 1) = stI ks yy i := fun c1 => by rw [stI_succ hw, if_neg (by rw [c1]; simp), List.append_nil]
      walk_at "ys"
      refine ⟨c2, ?_⟩
      rcases st_turn hg.pos ydesc ymem i w m hw em with ⟨s0, c1, c2⟩ | ⟨init, x, s1, c⟩
      · rw [s0]
        simp only [kl, List.map_nil, List.isEmpty_nil, Bool.not_true, Bool.not_false, if_true]
        rw [hval]
        walk_at "ys"
        refine ⟨by omega, i + 1, .dat (.int w), rfl, hi, ?_, rfl⟩
        rw [sucT c1 c2, s0]
        rfl
      · have e1 : kl (stI ks yy i) = kl init ++ [kd x] := by rw [s1]; simp [kl]
        rw [← kl_len] at sz
        rw [e1] at sz ⊢
        have ne : (kl init ++ [kd x]).isEmpty = false := by simp
        rw [ne, at_last, if_neg (by decide), hval]
        obtain ⟨xw, xg⟩ := x
        simp only [kd] at e1 sz ⊢
        walk_at "ys"
        rcases c with ⟨c, k1, k2⟩ | ⟨c, k1, k2⟩
        · rw [if_pos c]
          refine ⟨sz, i + 1, .dat (.int w), rfl, hi, ?_, rfl⟩
          rw [sucT k1 k2, ← kl_snoc, e1]
        · rw [if_neg c]
          refine ⟨i + 1, .dat (.int w), rfl, hi, ?_, rfl⟩
          rw [sucF k1, e1]
    · rintro ⟨i, s2, er, il, rfl, c2⟩
      have : i = yy.length := by
        rcases Nat.lt_or_ge i yy.length with c | c
        · rw [List.drop_eq_getElem_cons c] at er; cases er
        · omega
      subst this
      walk_at "ys"
      have := st_end hg.pos (fun k hk => ⟨(hg k hk).1, (hg k hk).2.1⟩) ydesc ymem
      unfold kl
      rw [← List.map_reverse, this]
      exact h

/-- a climate as data -/
abbrev Ci (ks : List (Int × Int)) : D := .obj .Climate [.tup (kl (pl ks))]
theorem pl_len (ks : List (Int × Int)) : (pl ks).length ≤ 16 := by
  unfold pl
  try rw [List.length_map]
  exact Nat.le_trans (List.length_filter_le _ _) (by simp [upTo])
theorem y_clim (ks : List (Int × Int)) (hg : Gd 16 120 ks) (hl : ks.length ≤ 300) {K : Rv → List Sl → Prop} {X : XC} (h : K (.d .non) [.cel .par (.obj .Climate [("kinds", .tup (kl (pl ks)))]), .dat (.lst (kl ks))]) : Y G_Climate_init [.cel .par (.obj .Climate []), .dat (.lst (kl ks))] K X := by
  unfold G_Climate_init B_Climate_init
  walk_at "ys"
  refine y_check_kinds ks hg hl ?_
  walk_at "ys"
  refine y_plain ks hg hl ?_
  walk_at "ys"
  exact ⟨by omega, h⟩
/-- the longest spell that climbs to a run -/
def wl (ks : List (Int × Int)) (r : Int) : Int := OW.maxL 0 ((ks.filter fun k => decide (k.2 ≤ r)).map (·.1))
theorem fm_kl {ms : List (Int × Int)} {r : Int} : (kl ms).filterMap (fun x => match x with | .tup [.int w, .int g] => if g ≤ r then some (.int w) else none | _ => none) = ((ms.filter fun k => decide (k.2 ≤ r)).map (·.1)).map D.int := by
  induction ms with
  | nil => rfl
  | cons k ms ih =>
    obtain ⟨w, g⟩ := k
    have e : kl ((w, g) :: ms) = kd (w, g) :: kl ms := rfl
    rw [e, List.filterMap_cons, ih]
    by_cases c : g ≤ r
    · simp [kd, c]
    · simp [kd, c]
theorem gmax_ints {ns : List Int} {d : Int} : gMaxD d [.lst (ns.map D.int)] = some (.int (OW.maxL d ns)) := by
  unfold gMaxD lints
  simp only [D.litems, Option.bind_some, D.ints_map, Option.map_some]
theorem y_longest (ks : List (Int × Int)) (r : Int) {K : Rv → List Sl → Prop} {X : XC} (h : K (.d (.int (wl (pl ks) r))) [.dat (Ci ks), .dat (.int r)]) : Y G_Climate_longest [.dat (Ci ks), .dat (.int r)] K X := by
  unfold G_Climate_longest B_Climate_longest
  walk_at "ys"
  refine Y_lcGo (f := fun x => match x with | .tup [.int w, .int g] => if g ≤ r then some (.int w) else none | _ => none) (ρ0 := [.dat (Ci ks), .dat (.int r), .un, .un]) (P := fun x => ∃ k ∈ pl ks, x = kd k) (fun x acc ⟨k, hk, e⟩ hl => ?_) _ _ (fun x hx => ?_) ?_ ?_
  · subst e
    unfold kd
    walk_at "ys"
    split
    · walk_at "ys"
    · walk_at "ys"
  · obtain ⟨k, hk, e⟩ := List.mem_map.mp hx
    exact ⟨k, hk, e.symm⟩
  · have := pl_len ks
    rw [kl_len]
    simp
    omega
  · rw [List.nil_append, fm_kl]
    walk_at "ys"
    exact ⟨_, gmax_ints, h⟩

theorem maxL0 : ∀ {ns : List Int}, (∀ n ∈ ns, 0 ≤ n) → OW.maxL 0 ns = ns.foldl max 0
  | [], _ => rfl
  | n :: ns, h => by
    show ns.foldl max n = ns.foldl max (max 0 n)
    have := h n List.mem_cons_self
    rw [show max 0 n = n by omega]
theorem wl_snoc {ks : List (Int × Int)} {k : Int × Int} {r : Int} (h : ∀ k ∈ ks, 0 ≤ k.1) (hk : 0 ≤ k.1) : wl (ks ++ [k]) r = if k.2 ≤ r then max (wl ks r) k.1 else wl ks r := by
  have p : ∀ n ∈ (ks.filter fun k => decide (k.2 ≤ r)).map (·.1), 0 ≤ n := fun n hn => by
    obtain ⟨q, hq, rfl⟩ := List.mem_map.mp hn
    exact h q (List.mem_filter.mp hq).1
  unfold wl
  rw [List.filter_append, List.map_append]
  by_cases c : k.2 ≤ r
  · rw [if_pos c]
    have e : [k].filter (fun k => decide (k.2 ≤ r)) = [k] := by simp [c]
    rw [e, maxL0 (by intro n hn; rcases List.mem_append.mp hn with q | q; exact p n q; simp at q; omega), maxL0 p, List.foldl_append]
    rfl
  · rw [if_neg c]
    have e : [k].filter (fun k => decide (k.2 ≤ r)) = [] := by simp [c]
    rw [e, List.map_nil, List.append_nil]
theorem wl_nn {ks : List (Int × Int)} {r : Int} (h : ∀ k ∈ ks, 0 ≤ k.1) : 0 ≤ wl ks r := by
  have p : ∀ n ∈ (ks.filter fun k => decide (k.2 ≤ r)).map (·.1), 0 ≤ n := fun n hn => by
    obtain ⟨q, hq, rfl⟩ := List.mem_map.mp hn
    exact h q (List.mem_filter.mp hq).1
  unfold wl
  rw [maxL0 p]
  exact (foldl_max' _ 0).1

/-- the longest spell of the plain list is that of the kinds -/
theorem wl_le {ks : List (Int × Int)} {r : Int} {k : Int × Int} (hk : k ∈ ks) (h : k.2 ≤ r) (hn : ∀ k ∈ ks, 0 ≤ k.1) : k.1 ≤ wl ks r := by
  unfold wl
  rw [maxL0 (fun n hn' => by
    obtain ⟨q, hq, rfl⟩ := List.mem_map.mp hn'
    exact hn q (List.mem_filter.mp hq).1)]
  exact (foldl_max' _ 0).2.1 _ (List.mem_map.mpr ⟨k, List.mem_filter.mpr ⟨hk, by simpa using h⟩, rfl⟩)
theorem wl_mem {ks : List (Int × Int)} {r : Int} (hn : ∀ k ∈ ks, 0 ≤ k.1) : wl ks r = 0 ∨ ∃ k ∈ ks, k.2 ≤ r ∧ k.1 = wl ks r := by
  have e := maxL0 (ns := (ks.filter fun k => decide (k.2 ≤ r)).map (·.1)) (fun n hn' => by
    obtain ⟨q, hq, rfl⟩ := List.mem_map.mp hn'
    exact hn q (List.mem_filter.mp hq).1)
  rcases (foldl_max' ((ks.filter fun k => decide (k.2 ≤ r)).map (·.1)) 0).2.2 with q | q
  · exact .inl (by unfold wl; rw [e, q])
  · rw [← e] at q
    obtain ⟨k, hk, eq⟩ := List.mem_map.mp q
    obtain ⟨h1, h2⟩ := List.mem_filter.mp hk
    exact .inr ⟨k, h1, by simpa using h2, eq⟩
theorem pl_sub {ks : List (Int × Int)} (hp : Pos2 ks) {k : Int × Int} (h : k ∈ pl ks) : k ∈ ks := by
  unfold pl at h
  obtain ⟨w, hw, rfl⟩ := List.mem_map.mp h
  obtain ⟨k, hk, e1, e2⟩ := keep_mem hp (List.mem_filter.mp hw).2
  obtain ⟨k1, k2⟩ := k
  simp only at e1 e2
  subst e1 e2
  exact hk
theorem pl_top {ks : List (Int × Int)} (hp : Pos2 ks) (hw : ∀ k ∈ ks, 1 ≤ k.1 ∧ k.1 ≤ 16) {k : Int × Int} (h : k ∈ ks) : ∃ q ∈ pl ks, k.1 ≤ q.1 ∧ q.2 ≤ k.2 := by
  -- climb as long as the least run stays
  have go : ∀ (n : Nat) (w : Int), (n : Int) = 17 - w → 1 ≤ w → 0 < lr ks w → ∃ q ∈ pl ks, w ≤ q.1 ∧ q.2 = lr ks w := by
    intro n
    induction n with
    | zero =>
      intro w e w1 h
      obtain ⟨k, hk, c, _⟩ := lr_mem hp h
      have := hw k hk
      omega
    | succ n ih =>
      intro w e w1 h
      by_cases c : lr ks w = lr ks (w + 1)
      · obtain ⟨q, hq, q1, q2⟩ := ih (w + 1) (by omega) (by omega) (by omega)
        exact ⟨q, hq, by omega, by omega⟩
      · refine ⟨(w, lr ks w), ?_, Int.le_refl _, rfl⟩
        unfold pl
        refine List.mem_map.mpr ⟨w, List.mem_filter.mpr ⟨upTo_mem.mpr ⟨w1, by omega⟩, ?_⟩, rfl⟩
        unfold keepW
        simp [h, c]
  have := hw k h
  have l := lr_le hp h (Int.le_refl k.1)
  obtain ⟨q, hq, q1, q2⟩ := go (17 - k.1).toNat k.1 (by omega) (by omega) l.1
  exact ⟨q, hq, q1, by omega⟩
theorem wl_pl {ks : List (Int × Int)} (hg : Gd 16 120 ks) (r : Int) : wl (pl ks) r = wl ks r := by
  have hn : ∀ k ∈ ks, 0 ≤ k.1 := fun k hk => by have := hg k hk; omega
  have hn2 : ∀ k ∈ pl ks, 0 ≤ k.1 := fun k hk => hn k (pl_sub hg.pos hk)
  have a1 : wl (pl ks) r ≤ wl ks r := by
    rcases wl_mem (r := r) hn2 with e | ⟨k, hk, k1, k2⟩
    · have := wl_nn (r := r) hn
      omega
    · have := wl_le (pl_sub hg.pos hk) k1 hn
      omega
  have a2 : wl ks r ≤ wl (pl ks) r := by
    rcases wl_mem (r := r) hn with e | ⟨k, hk, k1, k2⟩
    · have := wl_nn (r := r) hn2
      omega
    · obtain ⟨q, hq, q1, q2⟩ := pl_top hg.pos (fun k hk => ⟨(hg k hk).1, (hg k hk).2.1⟩) hk
      have := wl_le hq (r := r) (by omega) hn2
      omega
  omega
theorem wl_16 {ks : List (Int × Int)} (hg : Gd 16 120 ks) (r : Int) : 0 ≤ wl ks r ∧ wl ks r ≤ 16 := by
  have hn : ∀ k ∈ ks, 0 ≤ k.1 := fun k hk => by have := hg k hk; omega
  refine ⟨wl_nn hn, ?_⟩
  rcases wl_mem (r := r) hn with e | ⟨k, hk, k1, k2⟩
  · omega
  · have := hg k hk
    omega

theorem pl_gd {ks : List (Int × Int)} (hg : Gd 16 120 ks) : Gd 16 120 (pl ks) := fun k hk => hg k (pl_sub hg.pos hk)

theorem pl_pw {ks : List (Int × Int)} (hp : Pos2 ks) : (pl ks).Pairwise fun k q => k.1 < q.1 ∧ k.2 < q.2 := by
  unfold pl
  rw [List.pairwise_map]
  refine List.Pairwise.imp_of_mem (R := fun w v => w < v) (fun {w v} hw hv l => ⟨l, ?_⟩) ((upTo_rise 16).filter _)
  have kw := (List.mem_filter.mp hw).2
  have kv := (List.mem_filter.mp hv).2
  unfold keepW at kw kv
  simp only [Bool.and_eq_true, decide_eq_true_eq] at kw kv
  have m1 := lr_mono hp (v := w) (w := w + 1) (by omega)
  have m2 := lr_mono hp (v := w + 1) (w := v) (by omega)
  simp only
  omega

theorem rng1_cons {n i : Nat} (h : i < n) : (rngD 1 n).drop i = D.int (i + 1) :: (rngD 1 n).drop (i + 1) := by
  have l : i < (rngD 1 n).length := by rw [rng_len]; exact h
  rw [List.drop_eq_getElem_cons l]
  simp [rngD, Int.add_comm]

theorem rngc {lo : Int} {n i : Nat} (h : i < n) : (rngD lo n).drop i = D.int (lo + i) :: (rngD lo n).drop (i + 1) := by
  have l : i < (rngD lo n).length := by rw [rng_len]; exact h
  rw [List.drop_eq_getElem_cons l]
  simp [rngD]
theorem rngc_end {lo : Int} {n i : Nat} (h : n ≤ i) : (rngD lo n).drop i = [] := List.drop_eq_nil_of_le (by rw [rng_len]; exact h)
theorem rngc_lt {lo : Int} {n i : Nat} {x : D} {r : List D} (e : x :: r = (rngD lo n).drop i) : i < n ∧ x = .int (lo + i) ∧ r = (rngD lo n).drop (i + 1) := by
  rcases Nat.lt_or_ge i n with q | q
  · rw [rngc q] at e
    cases e
    exact ⟨q, rfl, rfl⟩
  · rw [rngc_end q] at e
    cases e
theorem rngc_ge {lo : Int} {n i : Nat} (e : [] = (rngD lo n).drop i) : n ≤ i := by
  rcases Nat.lt_or_ge i n with q | q
  · rw [rngc q] at e
    cases e
  · exact q

theorem at_map {α β : Type} {f : α → β} {l : List α} (i : Nat) (h : i < l.length) : atI (l.map f) (i : Int) = some (f l[i]) := by
  rw [at_lt i (by rw [List.length_map]; exact h)]
  simp [h]
theorem rng_cons {n i : Nat} (h : i < n) : (rngD 0 n).drop i = D.int i :: (rngD 0 n).drop (i + 1) := by
  have l : i < (rngD 0 n).length := by rw [rng_len]; exact h
  rw [List.drop_eq_getElem_cons l]
  simp [rngD]

theorem sl_app (x y : Str) : (x ++ y).length = x.length + y.length := Array.size_append
theorem tp_nat : ∀ n : Fin 1200, (Str.ofString (toString ((n.val : Nat) : Int))).length ≤ 8 := by decide +kernel
theorem tn_nat : ∀ n : Fin 1200, (Str.ofString (toString (-((n.val : Nat) : Int)))).length ≤ 8 := by decide +kernel
theorem ts_len {i : Int} (h1 : -1199 ≤ i) (h2 : i ≤ 1199) : (Str.ofString (toString i)).length ≤ 8 := by
  rcases Int.lt_or_le i 0 with c | c
  · obtain ⟨n, e⟩ := Int.eq_ofNat_of_zero_le (a := -i) (by omega)
    have := tn_nat ⟨n, by omega⟩
    rw [show i = -(n : Int) by omega]
    exact this
  · obtain ⟨n, rfl⟩ := Int.eq_ofNat_of_zero_le c
    exact tp_nat ⟨n, by omega⟩
theorem lg_len {i : Int} (h1 : -1199 ≤ i) (h2 : i ≤ 1199) : i.natAbs.log2 < 1920 := by
  have a : i.natAbs < 2 ^ 11 := by omega
  rcases Nat.eq_zero_or_pos i.natAbs with z | z
  · rw [z]; decide
  · have := (Nat.log2_lt (n := i.natAbs) (k := 11) (by omega)).mpr a
    omega
theorem y_badkind (w g : Int) (w1 : -1199 ≤ w) (w2 : w ≤ 1199) (g1 : -1199 ≤ g) (g2 : g ≤ 1199) (hn : ¬ (1 ≤ w ∧ w ≤ 16 ∧ 1 ≤ g ∧ g ≤ 120)) {K : Rv → List Sl → Prop} {X : XC} (h : X .BadKind none [.dat (.int w), .dat (.int g)]) : Y G_f_check_kind [.dat (.int w), .dat (.int g)] K X := by
  unfold G_f_check_kind B_f_check_kind
  walk_at "ys"
  have m : (Str.empty ++ Str.ofString "(").length ≤ 16777216 ∧ w.natAbs.log2 < 1920 ∧ (Str.empty ++ Str.ofString "(" ++ Str.ofString (toString w)).length ≤ 16777216 ∧ (Str.empty ++ Str.ofString "(" ++ Str.ofString (toString w) ++ Str.ofString ", ").length ≤ 16777216 ∧ g.natAbs.log2 < 1920 ∧ (Str.empty ++ Str.ofString "(" ++ Str.ofString (toString w) ++ Str.ofString ", " ++ Str.ofString (toString g)).length ≤ 16777216 ∧ (Str.empty ++ Str.ofString "(" ++ Str.ofString (toString w) ++ Str.ofString ", " ++ Str.ofString (toString g) ++ Str.ofString ") is not a kind").length ≤ 16777216 := by
    have e0 : Str.empty.length = 0 := by decide
    have e1 : (Str.ofString "(").length = 1 := by decide
    have e2 : (Str.ofString ", ").length = 2 := by decide
    have e3 : (Str.ofString ") is not a kind").length = 15 := by decide
    have l1 := ts_len w1 w2
    have l2 := ts_len g1 g2
    simp only [sl_app, e0, e1, e2, e3]
    exact ⟨by omega, lg_len w1 w2, by omega, by omega, lg_len g1 g2, by omega, by omega⟩
  obtain ⟨m1, m2, m3, m4, m5, m6, m7⟩ := m
  have m := And.intro m1 (And.intro m2 (And.intro m3 (And.intro m4 (And.intro m5 (And.intro m6 (And.intro m7 h))))))
  split
  · split
    · exact m
    · split
      · rw [if_pos (by omega)]
        exact m
      · exact m
  · exact m

def kp (k : Int × Int) : PyData := .tuple [.int k.1, .int k.2]
theorem pys_kl : ∀ ks : List (Int × Int), D.pys (kl ks) = some (ks.map kp)
  | [] => rfl
  | k :: ks => by
    have := pys_kl ks
    rw [show kl (k :: ks) = kd k :: kl ks from rfl, D.pys, this]
    rfl
theorem lay_kp : ∀ ks : List (Int × Int), PyData.canLayAll0 (ks.map kp) = true
  | [] => rfl
  | k :: ks => by
    have := lay_kp ks
    rw [List.map_cons, PyData.canLayAll0, this]
    rfl
theorem dep_kp : ∀ ks : List (Int × Int), PyData.depthAll (ks.map kp) ≤ 1
  | [] => by decide
  | k :: ks => by
    have := dep_kp ks
    (rw [List.map_cons, PyData.depthAll])
    exact Nat.max_le.mpr ⟨by show max 0 (max 0 0) + 1 ≤ 1; decide, this⟩
theorem eqK_refl (ks : List (Int × Int)) : D.eq? (.lst (kl ks)) (.lst (kl ks)) = some true := by
  have e : D.py (.lst (kl ks)) = some (.list (ks.map kp)) := by rw [D.py, pys_kl]; rfl
  have h0 : PyData.canLay0 (.list (ks.map kp)) = true := by rw [PyData.canLay0]; exact lay_kp ks
  have h1 : SeqAt.shaped (.list (ks.map kp)) = true := by
    have := dep_kp ks
    unfold SeqAt.shaped
    rw [h0, PyData.depth, Bool.true_and, decide_eq_true (by omega)]
  show (match D.py (.lst (kl ks)), D.py (.lst (kl ks)) with
    | some x, some y => if SeqAt.shaped x && SeqAt.shaped y then some (PyData.eqv x y) else none
    | _, _ => none) = _
  rw [e]
  simp [h1, SeqAt.eqv_refl _ h0]

theorem eqv_kps : ∀ ks ms : List (Int × Int), PyData.eqvAll (ks.map kp) (ms.map kp) = decide (ks = ms)
  | [], [] => rfl
  | [], _ :: _ => rfl
  | _ :: _, [] => rfl
  | (a, b) :: ks, (c, d) :: ms => by
    have := eqv_kps ks ms
    rw [List.map_cons, List.map_cons, PyData.eqvAll, this]
    show ((a == c && (b == d && true)) && decide (ks = ms)) = _
    by_cases h1 : a = c <;> by_cases h2 : b = d <;> by_cases h3 : ks = ms <;> simp [h1, h2, h3]
theorem shp_kps (ks : List (Int × Int)) : SeqAt.shaped (.tuple (ks.map kp)) = true := by
  have h0 : PyData.canLay0 (.tuple (ks.map kp)) = true := by rw [PyData.canLay0]; exact lay_kp ks
  have := dep_kp ks
  unfold SeqAt.shaped
  rw [h0, PyData.depth, Bool.true_and, decide_eq_true (by omega)]
theorem eqKT (ks ms : List (Int × Int)) : D.eq? (.tup (kl ks)) (.tup (kl ms)) = some (decide (ks = ms)) := by
  have e : ∀ ks, D.py (.tup (kl ks)) = some (.tuple (ks.map kp)) := fun ks => by rw [D.py, pys_kl]; rfl
  show (match D.py (.tup (kl ks)), D.py (.tup (kl ms)) with
    | some x, some y => if SeqAt.shaped x && SeqAt.shaped y then some (PyData.eqv x y) else none
    | _, _ => none) = _
  rw [e, e]
  have h3 : PyData.eqv (.tuple (ks.map kp)) (.tuple (ms.map kp)) = decide (ks = ms) := by rw [PyData.eqv]; exact eqv_kps ks ms
  simp [shp_kps, h3]

theorem y_longestL (ks : List (Int × Int)) (r : Int) (hg : ∀ k ∈ ks, 0 ≤ k.1) {K : Rv → List Sl → Prop} (h : K (.d (.int (wl ks r))) [.dat (.lst (kl ks)), .dat (.int r)]) : Y G_l_longest [.dat (.lst (kl ks)), .dat (.int r)] K NX := by
  unfold G_l_longest B_l_longest
  walk_at "ys"
  refine Y_loop (I := fun q ρ => ∃ (dn rest : List (Int × Int)) (s : Sl), ks = dn ++ rest ∧ q = kl rest ∧ ρ = [.dat (.lst (kl ks)), .dat (.int r), .dat (.int (wl dn r)), s] ∧ canSet s = true)
    ⟨[], ks, .un, rfl, rfl, rfl, rfl⟩ (fun e q ρ => ?_) (fun ρ => ?_)
  · rintro ⟨dn, rest, s, ek, er, rfl, c⟩
    cases rest with
    | nil => cases er
    | cons k rest =>
      obtain ⟨w, g⟩ := k
      cases er
      have hd : ∀ k ∈ dn, 0 ≤ k.1 := fun k hk => hg k (by rw [ek]; exact List.mem_append_left _ hk)
      have sn := wl_snoc (r := r) (k := (w, g)) hd (hg (w, g) (by rw [ek]; simp))
      have done : ∀ v, v = wl (dn ++ [(w, g)]) r → ∃ (dn' rest' : List (Int × Int)) (s : Sl), ks = dn' ++ rest' ∧ kl rest = kl rest' ∧ [Sl.dat (.lst (kl ks)), .dat (.int r), .dat (.int v), .dat (.tup [.int w, .int g])] = [.dat (.lst (kl ks)), .dat (.int r), .dat (.int (wl dn' r)), s] ∧ canSet s = true := by
        rintro v rfl
        exact ⟨dn ++ [(w, g)], rest, _, by rw [ek]; simp, rfl, rfl, rfl⟩
      unfold kd
      walk_at "ys"
      refine ⟨c, ?_⟩
      rw [sn] at done
      simp only at done
      split
      · rename_i c1
        rw [if_pos c1] at done
        split
        · exact done _ (by omega)
        · exact done _ (by omega)
      · rename_i c1
        rw [if_neg c1] at done
        exact done _ rfl
  · rintro ⟨dn, rest, s, ek, er, rfl, c⟩
    cases rest with
    | cons => cases er
    | nil =>
      rw [List.append_nil] at ek
      subst ek
      walk_at "ys"
      exact h

theorem cut_map {α β : Type} (f : α → β) (xs : List α) (lo hi : Option Int) : cut (xs.map f) lo hi = (cut xs lo hi).map f := by
  unfold cut
  rw [List.length_map, List.map_take, List.map_drop]
theorem cut_len {α : Type} (xs : List α) (lo hi : Option Int) : (cut xs lo hi).length ≤ xs.length := by
  unfold cut
  (rw [List.length_take, List.length_drop])
  omega
theorem cut_to {α : Type} (xs : List α) {n : Int} (h0 : 0 ≤ n) : cut xs none (some n) = xs.take n.toNat := by
  unfold cut
  show (xs.drop 0).take ((if n < 0 then _ else min n.toNat xs.length) - 0) = _
  rw [if_neg (by omega), List.drop_zero, Nat.sub_zero]
  rcases Nat.lt_or_ge n.toNat xs.length with q | q
  · rw [Nat.min_eq_left (by omega)]
  · rw [Nat.min_eq_right q, List.take_length, List.take_of_length_le q]

theorem kl_snocJ (ks : List (Int × Int)) (k : Int × Int) : kl ks ++ [kd k] = kl (ks ++ [k]) := by simp [kl]
theorem kl_consJ (k : Int × Int) (ks : List (Int × Int)) : kl (k :: ks) = kd k :: kl ks := rfl
theorem kl_atJ {ks : List (Int × Int)} {i : Int} (h0 : 0 ≤ i) (h : i < ks.length) : ∃ k ∈ ks, atI (kl ks) i = some (kd k) := by
  (obtain ⟨n, rfl⟩ := Int.eq_ofNat_of_zero_le h0)
  have hn : n < ks.length := by omega
  exact ⟨ks[n], List.getElem_mem hn, at_map n hn⟩
theorem Gd.one {w g : Int} (w1 : 1 ≤ w) (w2 : w ≤ 16) (g1 : 1 ≤ g) (g2 : g ≤ 120) : Gd 16 120 [(w, g)] := fun k hk => by
  simp at hk
  subst hk
  exact ⟨w1, w2, g1, g2⟩
theorem Gd.app {as bs : List (Int × Int)} (a : Gd 16 120 as) (b : Gd 16 120 bs) : Gd 16 120 (as ++ bs) := fun k hk => (List.mem_append.mp hk).elim (a k) (b k)
theorem Gd.sub {as bs : List (Int × Int)} (a : Gd 16 120 as) (h : ∀ k ∈ bs, k ∈ as) : Gd 16 120 bs := fun k hk => a k (h k hk)
theorem kl_insJ (ks : List (Int × Int)) (i : Nat) (w g : Int) : (kl ks).take i ++ [.tup [.int w, .int g]] ++ (kl ks).drop i = kl (ks.take i ++ [(w, g)] ++ ks.drop i) := by
  unfold kl
  simp [kd]
theorem ins_gd {ks : List (Int × Int)} {i : Nat} {w g : Int} (h : Gd 16 120 ks) (o : Gd 16 120 [(w, g)]) : Gd 16 120 (ks.take i ++ [(w, g)] ++ ks.drop i) :=
  ((h.sub fun k hk => List.mem_of_mem_take hk).app o).app (h.sub fun k hk => List.mem_of_mem_drop hk)
theorem fIns_kl {ks : List (Int × Int)} {i w g : Int} (hl : ks.length ≤ 1000) (i0 : 0 ≤ i) (i1 : i ≤ 1000) : fIns (kl ks) [.int i, .tup [.int w, .int g]] = some (.non, kl (ks.take i.toNat ++ [(w, g)] ++ ks.drop i.toNat)) := by
  show (if (kl ks).length < 16777216 ∧ 0 ≤ i ∧ i < 2 ^ 63 then _ else _) = _
  rw [if_pos (by rw [kl_len]; omega), kl_insJ]
theorem y_stairs (x y z : Int) {K : Rv → List Sl → Prop} (h : ∀ (ks : List (Int × Int)) (x' y' z' : Int), Gd 16 120 ks → ks.length ≤ 16 → K (.c (.lst (kl ks))) [Po x' y' z']) : Y G_l_stairs [Po x y z] K NX := by
  unfold G_l_stairs B_l_stairs
  walk_at "ys"
  refine ⟨by omega, ?_⟩
  refine Y_loop (I := fun r ρ => ∃ (i : Nat) (g x y z : Int) (ks : List (Int × Int)) (s : Sl), r = (rngD 1 (17 - 1 : Int).toNat).drop i ∧ 0 ≤ g ∧ g ≤ 7 * i ∧ i ≤ 16 ∧ ks.length ≤ i ∧ Gd 16 120 ks ∧ ρ = [Po x y z, .cel .own (.lst (kl ks)), .dat (.int g), s] ∧ canSet s = true)
    ⟨0, 0, _, _, _, [], _, rfl, by omega, by omega, by omega, by simp, fun k hk => by simp at hk, rfl, rfl⟩ (fun q r ρ => ?_) (fun ρ => ?_)
  · rintro ⟨i, g, x, y, z, ks, s, er, g0, g1, i16, kl1, hg, rfl, c⟩
    obtain ⟨hi, rfl, rfl⟩ := rngc_lt er
    have hi : i < 16 := hi
    walk_at "ys"
    refine ⟨c, ?_⟩
    refine y_take _ _ _ _ (by omega) (by omega) fun d x1 y1 z1 d1 d2 => ?_
    walk_at "ys"
    split
    · refine y_take _ _ _ _ (by omega) (by omega) fun e x2 y2 z2 e1 e2 => ?_
      walk_at "ys"
      rw [kl_len]
      refine y_take _ _ _ _ (by omega) (by omega) fun j x3 y3 z3 j1 j2 => ?_
      walk_at "ys"
      refine ⟨_, fIns_kl (by omega) j1 (by omega), ?_⟩
      exact ⟨i + 1, _, _, _, _, _, _, rfl, by omega, by omega, hi, by simp; omega, ins_gd hg (Gd.one (by omega) (by omega) (by omega) (by omega)), rfl, rfl⟩
    · exact ⟨i + 1, g, _, _, _, ks, _, rfl, g0, by omega, hi, by omega, hg, rfl, rfl⟩
  · rintro ⟨i, g, x, y, z, ks, s, er, g0, g1, i16, kl1, hg, rfl, c⟩
    walk_at "ys"
    exact h ks _ _ _ hg (by omega)
theorem y_kinds (x y z : Int) {K : Rv → List Sl → Prop} (h : ∀ (ks : List (Int × Int)) (x' y' z' : Int), Gd 16 120 ks → ks.length ≤ 16 → K (.c (.lst (kl ks))) [Po x' y' z']) : Y G_l_kinds [Po x y z] K NX := by
  unfold G_l_kinds B_l_kinds
  walk_at "ys"
  refine y_take _ _ _ _ (by omega) (by omega) fun st x1 y1 z1 s1 s2 => ?_
  walk_at "ys"
  split
  · refine y_stairs _ _ _ fun ks x2 y2 z2 hg hl => ?_
    walk_at "ys"
    exact h ks _ _ _ hg hl
  · refine y_take _ _ _ _ (by omega) (by omega) fun m x2 y2 z2 m1 m2 => ?_
    walk_at "ys"
    refine ⟨by omega, ?_⟩
    refine Y_loop (I := fun r ρ => ∃ (i : Nat) (x y z : Int) (ks : List (Int × Int)) (s3 s4 : Sl), r = (rngD 0 m.toNat).drop i ∧ i ≤ m.toNat ∧ ks.length ≤ i ∧ Gd 16 120 ks ∧ ρ = [Po x y z, .dat (.int st), .cel .own (.lst (kl ks)), s3, s4] ∧ canSet s3 = true ∧ canSet s4 = true)
      ⟨0, _, _, _, [], _, _, rfl, by omega, by simp, fun k hk => by simp at hk, rfl, rfl, rfl⟩ (fun q r ρ => ?_) (fun ρ => ?_)
    · rintro ⟨i, x, y, z, ks, s3, s4, er, im, kl1, hg, rfl, c3, c4⟩
      obtain ⟨hi, rfl, rfl⟩ := rngc_lt er
      have ends : ∀ (w g x y z : Int) (s4 : Sl), canSet s4 = true → Gd 16 120 [(w, g)] → ∃ (j : Nat) (x' y' z' : Int) (ks' : List (Int × Int)) (s3' s4' : Sl), (rngD 0 m.toNat).drop (i + 1) = (rngD 0 m.toNat).drop j ∧ j ≤ m.toNat ∧ ks'.length ≤ j ∧ Gd 16 120 ks' ∧ [Po x y z, .dat (.int st), .cel .own (.lst (kl ks ++ [.tup [.int w, .int g]])), .dat (.int (0 + (i : Int))), s4] = [Po x' y' z', .dat (.int st), .cel .own (.lst (kl ks')), s3', s4'] ∧ canSet s3' = true ∧ canSet s4' = true :=
        fun w g x y z s4 c4 o => ⟨i + 1, _, _, _, ks ++ [(w, g)], _, _, rfl, hi, by simp; omega, hg.app o, by rw [← kl_snocJ]; rfl, rfl, c4⟩
      walk_at "ys"
      refine ⟨c3, ?_⟩
      rw [kl_len]
      split
      · refine y_take _ _ _ _ (by omega) (by omega) fun e x3 y3 z3 e1 e2 => ?_
        walk_at "ys"
        split
        · rw [kl_len]
          refine y_take _ _ _ _ (by omega) (by omega) fun j x4 y4 z4 j1 j2 => ?_
          obtain ⟨k, hk, ek⟩ := kl_atJ (ks := ks) j1 (by omega)
          walk_at "ys"
          refine ⟨_, ek, by rw [kl_len]; omega, ?_⟩
          exact ends k.1 k.2 _ _ _ _ c4 (hg.sub fun q hq => by simp at hq; subst hq; exact hk)
        · split
          · refine y_take _ _ _ _ (by omega) (by omega) fun w x4 y4 z4 w1 w2 => ?_
            walk_at "ys"
            refine ⟨c4, ?_⟩
            refine y_take _ _ _ _ (by omega) (by omega) fun g x5 y5 z5 g1 g2 => ?_
            walk_at "ys"
            refine ⟨by rw [kl_len]; omega, ?_⟩
            exact ends (1 + w) (1 + g) _ _ _ _ rfl (Gd.one (by omega) (by omega) (by omega) (by omega))
          · refine y_take _ _ _ _ (by omega) (by omega) fun w x4 y4 z4 w1 w2 => ?_
            walk_at "ys"
            refine ⟨c4, ?_⟩
            refine y_take _ _ _ _ (by omega) (by omega) fun g x5 y5 z5 g1 g2 => ?_
            walk_at "ys"
            refine ⟨by rw [kl_len]; omega, ?_⟩
            exact ends (1 + w) (1 + g) _ _ _ _ rfl (Gd.one (by omega) (by omega) (by omega) (by omega))
      · split
        · refine y_take _ _ _ _ (by omega) (by omega) fun w x4 y4 z4 w1 w2 => ?_
          walk_at "ys"
          refine ⟨c4, ?_⟩
          refine y_take _ _ _ _ (by omega) (by omega) fun g x5 y5 z5 g1 g2 => ?_
          walk_at "ys"
          refine ⟨by rw [kl_len]; omega, ?_⟩
          exact ends (1 + w) (1 + g) _ _ _ _ rfl (Gd.one (by omega) (by omega) (by omega) (by omega))
        · refine y_take _ _ _ _ (by omega) (by omega) fun w x4 y4 z4 w1 w2 => ?_
          walk_at "ys"
          refine ⟨c4, ?_⟩
          refine y_take _ _ _ _ (by omega) (by omega) fun g x5 y5 z5 g1 g2 => ?_
          walk_at "ys"
          refine ⟨by rw [kl_len]; omega, ?_⟩
          exact ends (1 + w) (1 + g) _ _ _ _ rfl (Gd.one (by omega) (by omega) (by omega) (by omega))
    · rintro ⟨i, x, y, z, ks, s3, s4, er, im, kl1, hg, rfl, c3, c4⟩
      walk_at "ys"
      exact h ks _ _ _ hg (by omega)

theorem cut_fromJ {α : Type} (xs : List α) {n : Int} (h0 : 0 ≤ n) : cut xs (some n) none = xs.drop n.toNat := by
  unfold cut
  show (xs.drop (if n < 0 then _ else min n.toNat xs.length)).take (xs.length - (if n < 0 then _ else min n.toNat xs.length)) = _
  rw [if_neg (by omega)]
  rcases Nat.lt_or_ge n.toNat xs.length with q | q
  · rw [Nat.min_eq_left (by omega), List.take_of_length_le (by rw [List.length_drop]; omega)]
  · rw [Nat.min_eq_right q, Nat.sub_self, List.take_zero, List.drop_eq_nil_of_le q]
theorem ixN_J {n : Nat} {i : Int} (h0 : 0 ≤ i) (h : i < n) : ixN n i = some i.toNat := by
  unfold ixN
  (rw [if_pos (by omega), if_pos (by omega)])
theorem kl_atK {ks : List (Int × Int)} {i : Int} (h0 : 0 ≤ i) (h : i < ks.length) : atI (kl ks) i = some (kd (ks[i.toNat]'(by omega))) := by
  (obtain ⟨n, rfl⟩ := Int.eq_ofNat_of_zero_le h0)
  exact at_map n (by omega)
theorem fPop_kl {ks : List (Int × Int)} {i : Int} (h0 : 0 ≤ i) (h : i < ks.length) (hl : ks.length ≤ 1000) : fPopAt (kl ks) [.int i] = some (kd (ks[i.toNat]'(by omega)), kl (ks.eraseIdx i.toNat)) := by
  show (if -(2 ^ 63) ≤ i ∧ i < 2 ^ 63 then (seqIndex? i (kl ks).length).bind fun k => ((kl ks)[k]?).map fun d => (d, (kl ks).eraseIdx k) else none) = _
  rw [if_pos (by omega), kl_len]
  have e : seqIndex? i ks.length = some i.toNat := by
    unfold seqIndex?
    first
    | (rw [if_pos (by omega)] <;> rfl)
    | (simp <;> omega)
  rw [e]
  simp only [Option.bind_some]
  have hn : i.toNat < ks.length := by omega
  have e2 : (kl ks)[i.toNat]? = some (kd (ks[i.toNat]'hn)) := by unfold kl; simp [hn]
  rw [e2]
  simp only [Option.map_some]
  have e3 : ∀ (ks : List (Int × Int)) (n : Nat), (kl ks).eraseIdx n = kl (ks.eraseIdx n) := fun ks => by
    induction ks with
    | nil => intro n; rfl
    | cons k ks ih =>
      intro n
      cases n with
      | zero => rfl
      | succ n => exact congrArg (kd k :: ·) (ih n)
  rw [e3]
theorem kl_setJ (ks : List (Int × Int)) (i : Nat) (k : Int × Int) : (kl ks).set i (.tup [.int k.1, .int k.2]) = kl (ks.set i k) := by
  unfold kl
  rw [List.map_set]
  rfl
theorem y_other (x y z : Int) (ks : List (Int × Int)) (hg : Gd 16 120 ks) (hl : ks.length ≤ 16) {K : Rv → List Sl → Prop} (h : ∀ (os : List (Int × Int)) (x' y' z' : Int), Gd 16 120 os → os.length ≤ 16 → K (.c (.lst (kl os))) [Po x' y' z', .dat (.lst (kl ks))]) : Y G_l_other [Po x y z, .dat (.lst (kl ks))] K NX := by
  unfold G_l_other B_l_other
  walk_at "ys"
  refine y_take _ _ _ _ (by omega) (by omega) fun w x1 y1 z1 w1 w2 => ?_
  walk_at "ys"
  rw [kl_len]
  split
  · refine y_kinds _ _ _ fun os x2 y2 z2 ho hol => ?_
    walk_at "ys"
    exact h os _ _ _ ho hol
  · split
    · refine y_kinds _ _ _ fun os x2 y2 z2 ho hol => ?_
      walk_at "ys"
      exact h os _ _ _ ho hol
    · refine y_take _ _ _ _ (by omega) (by omega) fun i x2 y2 z2 i1 i2 => ?_
      have hn : i.toNat < ks.length := by omega
      have gk := hg _ (List.getElem_mem hn)
      walk_at "ys"
      split
      · rw [cut_fromJ _ i1, cut_to _ i1]
        have e : (kl ks).drop i.toNat ++ (kl ks).take i.toNat = kl (ks.drop i.toNat ++ ks.take i.toNat) := by simp [kl]
        rw [e]
        refine ⟨?_, h _ _ _ _ ((hg.sub fun k hk => List.mem_of_mem_drop hk).app (hg.sub fun k hk => List.mem_of_mem_take hk)) (by simp; omega)⟩
        rw [List.length_drop, List.length_take, kl_len]
        omega
      · split
        · refine ⟨_, fPop_kl i1 i2 (by omega), ?_⟩
          exact h _ _ _ _ (hg.sub fun k hk => List.mem_of_mem_eraseIdx hk) (by rw [List.length_eraseIdx]; split <;> omega)
        · rw [kl_atK i1 i2]
          walk_at "ys"
          refine ⟨_, rfl, _, rfl, _, rfl, _, rfl, _, by rw [kl_len]; exact ixN_J i1 i2, ?_⟩
          rw [kl_setJ ks i.toNat ((ks[i.toNat]'hn).1, min 120 ((ks[i.toNat]'hn).2 + 1))]
          refine h _ _ _ _ (fun k hk => ?_) (by rw [List.length_set]; exact hl)
          rcases List.mem_or_eq_of_mem_set hk with e | e
          · exact hg k e
          · subst e
            exact ⟨gk.1, gk.2.1, by simp only; omega, by simp only; omega⟩
/-- no kind -/
def NoK (w g : Int) : Prop := ¬ (1 ≤ w ∧ w ≤ 16 ∧ 1 ≤ g ∧ g ≤ 120) ∧ -1199 ≤ w ∧ w ≤ 1199 ∧ -1199 ≤ g ∧ g ≤ 1199
theorem y_stranger (x y z : Int) {K : Rv → List Sl → Prop} (h : ∀ (w g x' y' z' : Int), NoK w g → K (.d (.tup [.int w, .int g])) [Po x' y' z']) : Y G_l_stranger [Po x y z] K NX := by
  have prod : ∀ (u v m : Int), 0 ≤ u → u < 2 → 0 ≤ v → v < m → 0 ≤ u * v ∧ u * v < m := fun u v m u0 u1 v0 v1 => by
    rcases (show u = 0 ∨ u = 1 by omega) with e | e <;> subst e <;> omega
  unfold G_l_stranger B_l_stranger
  walk_at "ys"
  refine y_take _ _ _ _ (by omega) (by omega) fun w x1 y1 z1 w1 w2 => ?_
  walk_at "ys"
  refine y_take _ _ _ _ (by omega) (by omega) fun g x2 y2 z2 g1 g2 => ?_
  walk_at "ys"
  refine y_take _ _ _ _ (by omega) (by omega) fun d x3 y3 z3 d1 d2 => ?_
  walk_at "ys"
  split
  · refine y_take _ _ _ _ (by omega) (by omega) fun u x4 y4 z4 u1 u2 => ?_
    walk_at "ys"
    refine y_take _ _ _ _ (by omega) (by omega) fun v x5 y5 z5 v1 v2 => ?_
    have p := prod u v 20 u1 u2 v1 v2
    walk_at "ys"
    exact ⟨mOkR (by omega), h _ _ _ _ _ ⟨by omega, by omega, by omega, by omega, by omega⟩⟩
  · split
    · refine y_take _ _ _ _ (by omega) (by omega) fun u x4 y4 z4 u1 u2 => ?_
      walk_at "ys"
      refine y_take _ _ _ _ (by omega) (by omega) fun v x5 y5 z5 v1 v2 => ?_
      have p := prod u v 1000 u1 u2 v1 v2
      walk_at "ys"
      exact ⟨mOkR (by omega), h _ _ _ _ _ ⟨by omega, by omega, by omega, by omega, by omega⟩⟩
    · split
      · refine y_take _ _ _ _ (by omega) (by omega) fun u x4 y4 z4 u1 u2 => ?_
        walk_at "ys"
        refine y_take _ _ _ _ (by omega) (by omega) fun v x5 y5 z5 v1 v2 => ?_
        have p := prod u v 20 u1 u2 v1 v2
        walk_at "ys"
        exact ⟨mOkR (by omega), h _ _ _ _ _ ⟨by omega, by omega, by omega, by omega, by omega⟩⟩
      · refine y_take _ _ _ _ (by omega) (by omega) fun u x4 y4 z4 u1 u2 => ?_
        walk_at "ys"
        refine y_take _ _ _ _ (by omega) (by omega) fun v x5 y5 z5 v1 v2 => ?_
        have p := prod u v 1000 u1 u2 v1 v2
        walk_at "ys"
        exact ⟨mOkR (by omega), h _ _ _ _ _ ⟨by omega, by omega, by omega, by omega, by omega⟩⟩

theorem pys_ints : ∀ xs : List Int, D.pys (xs.map D.int) = some (xs.map PyData.int)
  | [] => rfl
  | x :: xs => by
    have := pys_ints xs
    rw [List.map_cons, D.pys, this]
    rfl
theorem lay_ints : ∀ xs : List Int, PyData.canLayAll0 (xs.map PyData.int) = true
  | [] => rfl
  | x :: xs => by
    have := lay_ints xs
    rw [List.map_cons, PyData.canLayAll0, this]
    rfl
theorem dep_ints : ∀ xs : List Int, PyData.depthAll (xs.map PyData.int) = 0
  | [] => rfl
  | x :: xs => by
    have := dep_ints xs
    rw [List.map_cons, PyData.depthAll, this]
    rfl
theorem shp_ints (xs : List Int) : SeqAt.shaped (.list (xs.map PyData.int)) = true := by
  have h1 : PyData.canLay0 (.list (xs.map PyData.int)) = true := by rw [PyData.canLay0]; exact lay_ints xs
  have h2 : PyData.depth (.list (xs.map PyData.int)) = 1 := by rw [PyData.depth, dep_ints]
  unfold SeqAt.shaped
  rw [h1, h2]
  rfl
theorem eqv_ints : ∀ xs ys : List Int, PyData.eqvAll (xs.map PyData.int) (ys.map PyData.int) = decide (xs = ys)
  | [], [] => rfl
  | [], _ :: _ => rfl
  | _ :: _, [] => rfl
  | x :: xs, y :: ys => by
    have := eqv_ints xs ys
    rw [List.map_cons, List.map_cons, PyData.eqvAll, this]
    show (x == y && decide (xs = ys)) = _
    (by_cases h1 : x = y <;> by_cases h2 : xs = ys <;> simp [h1, h2])
theorem eqL_ints (xs ys : List Int) : D.eq? (.lst (xs.map D.int)) (.lst (ys.map D.int)) = some (decide (xs = ys)) := by
  have e1 : D.py (.lst (xs.map D.int)) = some (.list (xs.map PyData.int)) := by rw [D.py, pys_ints]; rfl
  have e2 : D.py (.lst (ys.map D.int)) = some (.list (ys.map PyData.int)) := by rw [D.py, pys_ints]; rfl
  have h1 := shp_ints xs
  have h2 := shp_ints ys
  have h3 : PyData.eqv (.list (xs.map PyData.int)) (.list (ys.map PyData.int)) = decide (xs = ys) := by rw [PyData.eqv]; exact eqv_ints xs ys
  show (match D.py (.lst (xs.map D.int)), D.py (.lst (ys.map D.int)) with
    | some x, some y => if SeqAt.shaped x && SeqAt.shaped y then some (PyData.eqv x y) else none
    | _, _ => none) = _
  rw [e1, e2]
  simp [h1, h2, h3]
theorem neL_ints (xs ys : List Int) : dNe (.lst (xs.map D.int)) (.lst (ys.map D.int)) = some (.bl (!decide (xs = ys))) := by
  unfold dNe
  rw [eqL_ints]
  rfl
theorem in_ints (x : Int) (xs : List Int) : dIn (.int x) (.lst (xs.map D.int)) = some (.bl (decide (x ∈ xs))) := by
  unfold dIn dInB
  simp only [D.items, Option.bind_some, D.ints_map, Option.map_some]
  congr 2
  by_cases h : x ∈ xs <;> simp [h]

theorem eqT_ints (xs ys : List Int) : D.eq? (.tup (xs.map D.int)) (.tup (ys.map D.int)) = some (decide (xs = ys)) := by
  have e1 : D.py (.tup (xs.map D.int)) = some (.tuple (xs.map PyData.int)) := by rw [D.py, pys_ints]; rfl
  have e2 : D.py (.tup (ys.map D.int)) = some (.tuple (ys.map PyData.int)) := by rw [D.py, pys_ints]; rfl
  have sh : ∀ zs : List Int, SeqAt.shaped (.tuple (zs.map PyData.int)) = true := fun zs => by
    have h1 : PyData.canLay0 (.tuple (zs.map PyData.int)) = true := by rw [PyData.canLay0]; exact lay_ints zs
    have h2 : PyData.depth (.tuple (zs.map PyData.int)) = 1 := by rw [PyData.depth, dep_ints]
    unfold SeqAt.shaped
    rw [h1, h2]
    rfl
  have h1 := sh xs
  have h2 := sh ys
  have h3 : PyData.eqv (.tuple (xs.map PyData.int)) (.tuple (ys.map PyData.int)) = decide (xs = ys) := by rw [PyData.eqv]; exact eqv_ints xs ys
  show (match D.py (.tup (xs.map D.int)), D.py (.tup (ys.map D.int)) with
    | some x, some y => if SeqAt.shaped x && SeqAt.shaped y then some (PyData.eqv x y) else none
    | _, _ => none) = _
  rw [e1, e2]
  simp [h1, h2, h3]
theorem qe_t2 {a b c d : Int} : D.eq? (.tup [.int a, .int b]) (.tup [.int c, .int d]) = some (decide (a = c ∧ b = d)) := by
  have := eqT_ints [a, b] [c, d]
  rw [show decide ([a, b] = [c, d]) = decide (a = c ∧ b = d) by simp] at this
  exact this

theorem ne_kd (o k : Int × Int) : D.eq? (kd o) (kd k) = some (decide (o = k)) := by
  unfold kd
  rw [qe_t2]
  congr 2
  exact propext ⟨fun h => Prod.ext h.1 h.2, fun h => by rw [h]; exact ⟨rfl, rfl⟩⟩
def nd (k : Int × Int) (ks : List (Int × Int)) : Bool := ks.any fun o => decide (o ≠ k ∧ k.1 ≤ o.1 ∧ o.2 ≤ k.2)
theorem notin_kl (k : Int × Int) (P : List (Int × Int)) : dNotInD (kd k) (.lst (kl P)) = some (.bl (!decide (k ∈ P))) := by
  have e1 : D.py (kd k) = some (kp k) := by unfold kd kp; rw [D.py]; rfl
  have e2 : D.py (.lst (kl P)) = some (.list (P.map kp)) := by rw [D.py, pys_kl]; rfl
  unfold dNotInD dInDB
  have e3 : ∀ P : List (Int × Int), PyData.plainAll (P.map kp) = true := fun P => by
    induction P with
    | nil => rfl
    | cons k P ih => rw [List.map_cons, PyData.plainAll, ih]; rfl
  have e4 : ∀ a : Int × Int, PyData.eqv (kp a) (kp k) = decide (a = k) := fun a => by
    have := eqv_kps [a] [k]
    rw [List.map_cons, List.map_cons, PyData.eqvAll] at this
    have e5 : PyData.eqvAll (List.map kp []) (List.map kp []) = true := by rw [eqv_kps]; rfl
    rw [e5, Bool.and_true] at this
    rw [this]
    simp
  have e6 : (kp k).plain = true := rfl
  have e7 : (kp k).depth ≤ 60 := by show max 0 (max 0 0) + 1 ≤ 60; decide
  rw [e1, e2]
  show Option.map (fun b => D.bl !b) (if (PyData.plainAll (P.map kp) && (kp k).plain && decide ((kp k).depth ≤ 60)) = true then some ((P.map kp).any fun z => z.eqv (kp k)) else none) = _
  rw [e3, e6, decide_eq_true e7, show (true && true && true) = true from rfl, if_pos rfl]
  have e8 : ((P.map kp).any fun z => z.eqv (kp k)) = decide (k ∈ P) := by
    rw [List.any_map]
    rw [Bool.eq_iff_iff, List.any_eq_true, decide_eq_true_iff]
    exact ⟨fun ⟨a, ha, e⟩ => by have e := (e4 a).symm.trans e; rw [decide_eq_true_iff] at e; exact e ▸ ha, fun h => ⟨k, h, (e4 k).trans (by simp)⟩⟩
  rw [e8]
  rfl
theorem y_needless (k : Int × Int) (ks : List (Int × Int)) {K : Rv → List Sl → Prop} (h : K (.d (.bl (nd k ks))) [.dat (kd k), .dat (.lst (kl ks))]) : Y G_l_needless [.dat (kd k), .dat (.lst (kl ks))] K NX := by
  obtain ⟨w, g⟩ := k
  unfold G_l_needless B_l_needless
  unfold kd at *
  walk_at "ys"
  refine Y_loop (I := fun q ρ => ∃ (dn rest : List (Int × Int)) (s : Sl), ks = dn ++ rest ∧ q = kl rest ∧ nd (w, g) dn = false ∧ ρ = [.dat (.tup [.int w, .int g]), .dat (.lst (kl ks)), s] ∧ canSet s = true)
    ⟨[], ks, .un, rfl, rfl, rfl, rfl, rfl⟩ (fun e q ρ => ?_) (fun ρ => ?_)
  · rintro ⟨dn, rest, s, ek, er, hn, rfl, c⟩
    cases rest with
    | nil => cases er
    | cons o rest =>
      cases er
      obtain ⟨v, r⟩ := o
      have hit : ((v, r) ≠ (w, g) ∧ w ≤ v ∧ r ≤ g) → nd (w, g) ks = true := fun q => by
        unfold nd
        rw [ek, List.any_append, List.any_cons, decide_eq_true (show (v, r) ≠ (w, g) ∧ (w, g).1 ≤ (v, r).1 ∧ (v, r).2 ≤ (w, g).2 from q)]
        simp
      have go : ¬ ((v, r) ≠ (w, g) ∧ w ≤ v ∧ r ≤ g) → nd (w, g) (dn ++ [(v, r)]) = false := fun q => by
        unfold nd at hn ⊢
        rw [List.any_append, hn, List.any_cons, decide_eq_false (show ¬ ((v, r) ≠ (w, g) ∧ (w, g).1 ≤ (v, r).1 ∧ (v, r).2 ≤ (w, g).2) from q)]
        simp
      have ne : (v, r) ≠ (w, g) ↔ ¬ (v = w ∧ r = g) := by simp
      unfold kd
      walk_at "ys"
      refine ⟨c, ?_⟩
      rw [qe_t2]
      walk_at "ys"
      have fin : ¬ ((v, r) ≠ (w, g) ∧ w ≤ v ∧ r ≤ g) → ∃ (dn_1 rest_1 : List (Int × Int)) (s : Sl), ks = dn_1 ++ rest_1 ∧ rest.map kd = kl rest_1 ∧ nd (w, g) dn_1 = false ∧ [Sl.dat (.tup [.int w, .int g]), .dat (.lst (kl ks)), .dat (.tup [.int v, .int r])] = [.dat (.tup [.int w, .int g]), .dat (.lst (kl ks)), s] ∧ canSet s = true :=
        fun q => ⟨dn ++ [(v, r)], rest, _, by rw [ek]; simp, rfl, go q, rfl, rfl⟩
      split
      · split
        · split
          · rw [hit ⟨ne.mpr ‹_›, by omega, by omega⟩] at h
            exact h
          · exact fin fun q => by omega
        · exact fin fun q => by omega
      · exact fin fun q => absurd (ne.mp q.1) ‹_›
  · rintro ⟨dn, rest, s, ek, er, hn, rfl, c⟩
    cases rest with
    | cons o rest => cases er
    | nil =>
      rw [List.append_nil] at ek
      subst ek
      walk_at "ys"
      rw [hn] at h
      exact h
theorem pw_tri {α : Type} {R : α → α → Prop} : ∀ {l : List α}, l.Pairwise R → ∀ {a b : α}, a ∈ l → b ∈ l → a = b ∨ R a b ∨ R b a
  | [], _, a, b, h, _ => by simp at h
  | x :: l, h, a, b, ha, hb => by
    have h := List.pairwise_cons.mp h
    rcases List.mem_cons.mp ha with e | e <;> rcases List.mem_cons.mp hb with f | f
    · exact .inl (e.trans f.symm)
    · subst e; exact .inr (.inl (h.1 b f))
    · subst f; exact .inr (.inr (h.1 a e))
    · exact pw_tri h.2 e f
theorem srt_kl {P : List (Int × Int)} (hg : Gd 16 120 P) (hl : P.length < 64) : gSrtP [.lst (kl P)] = some (.lst (kl (srtP P))) := by
  show (match prs (kl P) with | some ks => if ks.length < 64 ∧ ∀ k ∈ ks, (0 ≤ k.1 ∧ k.1 < 1000) ∧ 0 ≤ k.2 ∧ k.2 < 1000 then some (CC.lst ((srtP ks).map pD)) else none | none => none) = _
  have e : prs (kl P) = some P := prs_map P
  rw [e]
  dsimp only
  rw [if_pos ⟨hl, fun k hk => by have := hg k hk; omega⟩]
  rfl
theorem y_plainL (ks : List (Int × Int)) (hg : Gd 16 120 ks) (hl : ks.length ≤ 60) {K : Rv → List Sl → Prop} (h : K (.c (.lst (kl (pl ks)))) [.dat (.lst (kl ks))]) : Y G_l_plain [.dat (.lst (kl ks))] K NX := by
  have hp := hg.pos
  have mem : ∀ k, k ∈ pl ks ↔ k ∈ ks ∧ nd k ks = false := fun k => by
    constructor
    · intro hk
      refine ⟨pl_sub hp hk, ?_⟩
      unfold nd
      rw [List.any_eq_false]
      intro o ho
      rw [decide_eq_true_iff]
      rintro ⟨n, a, b⟩
      obtain ⟨q, hq, q1, q2⟩ := pl_top hp (fun k hk => by have := hg k hk; omega) ho
      rcases pw_tri (pl_pw hp) hk hq with e | e | e
      · subst e
        exact n (Prod.ext (by omega) (by omega))
      · omega
      · omega
    · rintro ⟨hk, hn⟩
      obtain ⟨q, hq, q1, q2⟩ := pl_top hp (fun k hk => by have := hg k hk; omega) hk
      unfold nd at hn
      rw [List.any_eq_false] at hn
      have := hn q (pl_sub hp hq)
      rw [decide_eq_true_iff] at this
      by_cases e : q = k
      · rw [← e]; exact hq
      · exact absurd ⟨e, q1, q2⟩ this
  unfold G_l_plain B_l_plain
  walk_at "ys"
  refine Y_loop (I := fun q ρ => ∃ (dn rest P : List (Int × Int)) (s : Sl), ks = dn ++ rest ∧ q = kl rest ∧ P.Nodup ∧ (∀ k, k ∈ P ↔ k ∈ dn ∧ nd k ks = false) ∧ P.length ≤ dn.length ∧ ρ = [.dat (.lst (kl ks)), .cel .own (.lst (kl P)), s] ∧ canSet s = true)
    ⟨[], ks, [], .un, rfl, rfl, .nil, fun k => by simp, by simp, rfl, rfl⟩ (fun e q ρ => ?_) (fun ρ => ?_)
  · rintro ⟨dn, rest, P, s, ek, er, hn, hm, hpl, rfl, c⟩
    cases rest with
    | nil => cases er
    | cons o rest =>
      cases er
      have hd : dn.length ≤ 60 := by
        have := congrArg List.length ek
        rw [List.length_append] at this
        omega
      have skip : (o ∈ P ∨ nd o ks = true) → ∃ (dn_1 rest_1 P_1 : List (Int × Int)) (s : Sl), ks = dn_1 ++ rest_1 ∧ rest.map kd = kl rest_1 ∧ P_1.Nodup ∧ (∀ k, k ∈ P_1 ↔ k ∈ dn_1 ∧ nd k ks = false) ∧ P_1.length ≤ dn_1.length ∧ [Sl.dat (.lst (kl ks)), .cel .own (.lst (kl P)), .dat (kd o)] = [.dat (.lst (kl ks)), .cel .own (.lst (kl P_1)), s] ∧ canSet s = true := fun q =>
        have hm' : ∀ k, k ∈ P ↔ k ∈ dn ++ [o] ∧ nd k ks = false := fun k => by
          rw [hm, List.mem_append, List.mem_singleton]
          constructor
          · exact fun ⟨a, b⟩ => ⟨.inl a, b⟩
          · rintro ⟨a | a, b⟩
            · exact ⟨a, b⟩
            · subst a
              rcases q with q | q
              · exact (hm k).mp q
              · rw [q] at b
                cases b
        ⟨dn ++ [o], rest, P, _, by rw [ek]; simp, rfl, hn, hm', by simp; omega, rfl, rfl⟩
      have more : o ∉ P → nd o ks = false → ∃ (dn_1 rest_1 P_1 : List (Int × Int)) (s : Sl), ks = dn_1 ++ rest_1 ∧ rest.map kd = kl rest_1 ∧ P_1.Nodup ∧ (∀ k, k ∈ P_1 ↔ k ∈ dn_1 ∧ nd k ks = false) ∧ P_1.length ≤ dn_1.length ∧ [Sl.dat (.lst (kl ks)), .cel .own (.lst (kl P ++ [kd o])), .dat (kd o)] = [.dat (.lst (kl ks)), .cel .own (.lst (kl P_1)), s] ∧ canSet s = true := fun q1 q2 =>
        have hn' : (P ++ [o]).Nodup := List.nodup_append.mpr ⟨hn, by simp, fun a ha b hb e => by simp at hb; subst hb; subst e; exact q1 ha⟩
        have hm' : ∀ k, k ∈ P ++ [o] ↔ k ∈ dn ++ [o] ∧ nd k ks = false := fun k => by
          rw [List.mem_append, hm, List.mem_append, List.mem_singleton]
          constructor
          · rintro (⟨a, b⟩ | a)
            · exact ⟨.inl a, b⟩
            · subst a; exact ⟨.inr rfl, q2⟩
          · rintro ⟨a | a, b⟩
            · exact .inl ⟨a, b⟩
            · exact .inr a
        ⟨dn ++ [o], rest, P ++ [o], _, by rw [ek]; simp, rfl, hn', hm', by simp; omega, by rw [kl_snocJ], rfl⟩
      walk_at "ys"
      refine ⟨c, ?_⟩
      rw [notin_kl]
      walk_at "ys"
      split
      · rename_i hO
        refine y_needless o ks ?_
        cases e : nd o ks
        · walk_at "ys"
          refine ⟨by rw [kl_len]; omega, ?_⟩
          exact more hO e
        · walk_at "ys"
          exact skip (.inr e)
      · rename_i hO
        exact skip (.inl (Decidable.not_not.mp hO))
  · rintro ⟨dn, rest, P, s, ek, er, hn, hm, hpl, rfl, c⟩
    cases rest with
    | cons o rest => cases er
    | nil =>
      rw [List.append_nil] at ek
      subst ek
      have gP : Gd 16 120 P := hg.sub fun k hk => ((hm k).mp hk).1
      have es : srtP P = pl ks := by
        refine asc_uniq ((srtP_perm P).trans ?_) (srtP_asc P) ((pl_pw hp).imp fun q => .inl q.1)
        refine (List.perm_ext_iff_of_nodup hn ?_).mpr fun k => (hm k).trans (mem k).symm
        exact (pl_pw hp).imp fun q e => by subst e; omega
      walk_at "ys"
      rw [srt_kl gP (by omega), es]
      exact ⟨_, rfl, h⟩

theorem y_int (x : Int) {K : Rv → List Sl → Prop} (h : K (.d (.bl true)) [.dat (.int x)]) : Y G_l_int [.dat (.int x)] K NX := by
  unfold G_l_int B_l_int
  walk_at "ys"
  exact h
theorem y_pairsT (ks : List (Int × Int)) (hl : ks.length ≤ 1000) {K : Rv → List Sl → Prop} (h : K (.d (.bl true)) [.dat (.tup (kl ks)), .dat (.lst (kl ks))]) : Y G_l_pairs [.dat (.tup (kl ks)), .dat (.lst (kl ks))] K NX := by
  unfold G_l_pairs B_l_pairs
  walk_at "ys"
  rw [kl_len]
  refine ⟨by omega, ?_⟩
  refine Y_loop (I := fun r ρ => ∃ (i : Nat) (s2 s3 : Sl), r = (rngD 0 (ks.length : Int).toNat).drop i ∧ ρ = [.dat (.tup (kl ks)), .dat (.lst (kl ks)), s2, s3] ∧ canSet s2 = true ∧ canSet s3 = true) ⟨0, .un, .un, rfl, rfl, rfl, rfl⟩ (fun x r ρ => ?_) (fun ρ => ?_)
  · rintro ⟨i, s2, s3, er, rfl, c2, c3⟩
    obtain ⟨hi, rfl, rfl⟩ := rngc_lt er
    have hi : i < ks.length := by omega
    have e : atI (kl ks) (0 + (i : Int)) = some (.tup [.int (ks[i]).1, .int (ks[i]).2]) := by
      rw [Int.zero_add]
      exact at_map i hi
    walk_at "ys"
    refine ⟨c2, ?_⟩
    rw [e]
    walk_at "ys"
    refine ⟨c3, ?_⟩
    refine y_int _ ?_
    walk_at "ys"
    refine y_int _ ?_
    walk_at "ys"
    rw [e]
    walk_at "ys"
    exact ⟨i + 1, _, _, rfl, rfl, rfl, rfl⟩
  · rintro ⟨i, s2, s3, er, rfl, c2, c3⟩
    walk_at "ys"
    exact h
theorem y_pairsL (ks : List (Int × Int)) (hl : ks.length ≤ 1000) {K : Rv → List Sl → Prop} (h : K (.d (.bl true)) [.dat (.lst (kl ks)), .dat (.lst (kl ks))]) : Y G_l_pairs [.dat (.lst (kl ks)), .dat (.lst (kl ks))] K NX := by
  unfold G_l_pairs B_l_pairs
  walk_at "ys"
  rw [kl_len]
  refine ⟨by omega, ?_⟩
  refine Y_loop (I := fun r ρ => ∃ (i : Nat) (s2 s3 : Sl), r = (rngD 0 (ks.length : Int).toNat).drop i ∧ ρ = [.dat (.lst (kl ks)), .dat (.lst (kl ks)), s2, s3] ∧ canSet s2 = true ∧ canSet s3 = true) ⟨0, .un, .un, rfl, rfl, rfl, rfl⟩ (fun x r ρ => ?_) (fun ρ => ?_)
  · rintro ⟨i, s2, s3, er, rfl, c2, c3⟩
    obtain ⟨hi, rfl, rfl⟩ := rngc_lt er
    have hi : i < ks.length := by omega
    have e : atI (kl ks) (0 + (i : Int)) = some (.tup [.int (ks[i]).1, .int (ks[i]).2]) := by
      rw [Int.zero_add]
      exact at_map i hi
    walk_at "ys"
    refine ⟨c2, ?_⟩
    rw [e]
    walk_at "ys"
    refine ⟨c3, ?_⟩
    refine y_int _ ?_
    walk_at "ys"
    refine y_int _ ?_
    walk_at "ys"
    rw [e]
    walk_at "ys"
    exact ⟨i + 1, _, _, rfl, rfl, rfl, rfl⟩
  · rintro ⟨i, s2, s3, er, rfl, c2, c3⟩
    walk_at "ys"
    exact h
/-- need and peak -/
def ndP (P : List (Int × Int)) : Int := OW.maxL 0 (P.map (·.2))
def pkP (P : List (Int × Int)) : Int := OW.maxL 0 (P.map (·.1))
theorem fm_2 : ∀ ms : List (Int × Int), (kl ms).filterMap (fun x => match x with | .tup [.int w, .int g] => some (.int g) | _ => none) = (ms.map (·.2)).map D.int
  | [] => rfl
  | k :: ms => congrArg (D.int k.2 :: ·) (fm_2 ms)
theorem fm_1 : ∀ ms : List (Int × Int), (kl ms).filterMap (fun x => match x with | .tup [.int w, .int g] => some (.int w) | _ => none) = (ms.map (·.1)).map D.int
  | [] => rfl
  | k :: ms => congrArg (D.int k.1 :: ·) (fm_1 ms)
theorem y_need (ks : List (Int × Int)) {K : Rv → List Sl → Prop} {X : XC} (h : K (.d (.int (ndP (pl ks)))) [.dat (Ci ks)]) : Y G_Climate_need [.dat (Ci ks)] K X := by
  have hl := pl_len ks
  unfold G_Climate_need B_Climate_need
  walk_at "ys"
  refine Y_lcGo (f := fun x => match x with | .tup [.int w, .int g] => some (.int g) | _ => none) (ρ0 := [.dat (Ci ks), .un, .un]) (P := fun x => ∃ k ∈ pl ks, x = kd k) (fun x acc ⟨k, hk, e⟩ hl => ?_) _ _ (fun x hx => ?_) ?_ ?_
  · subst e
    unfold kd
    walk_at "ys"
  · obtain ⟨k, hk, e⟩ := List.mem_map.mp hx
    exact ⟨k, hk, e.symm⟩
  · rw [kl_len]
    simp
    omega
  · rw [List.nil_append, fm_2]
    walk_at "ys"
    rw [gmax_ints]
    exact ⟨_, rfl, h⟩
theorem y_peak (ks : List (Int × Int)) {K : Rv → List Sl → Prop} {X : XC} (h : K (.d (.int (pkP (pl ks)))) [.dat (Ci ks)]) : Y G_Climate_peak [.dat (Ci ks)] K X := by
  have hl := pl_len ks
  unfold G_Climate_peak B_Climate_peak
  walk_at "ys"
  refine Y_lcGo (f := fun x => match x with | .tup [.int w, .int g] => some (.int w) | _ => none) (ρ0 := [.dat (Ci ks), .un, .un]) (P := fun x => ∃ k ∈ pl ks, x = kd k) (fun x acc ⟨k, hk, e⟩ hl => ?_) _ _ (fun x hx => ?_) ?_ ?_
  · subst e
    unfold kd
    walk_at "ys"
  · obtain ⟨k, hk, e⟩ := List.mem_map.mp hx
    exact ⟨k, hk, e.symm⟩
  · rw [kl_len]
    simp
    omega
  · rw [List.nil_append, fm_1]
    walk_at "ys"
    rw [gmax_ints]
    exact ⟨_, rfl, h⟩

theorem mx_snoc {f : Int × Int → Int} {P : List (Int × Int)} {k : Int × Int} (h : ∀ k ∈ P, 0 ≤ f k) (hk : 0 ≤ f k) : OW.maxL 0 ((P ++ [k]).map f) = max (OW.maxL 0 (P.map f)) (f k) := by
  rw [maxL0 (fun n hn => ?_), maxL0 (fun n hn => ?_), List.map_append, List.foldl_append]
  · rfl
  · obtain ⟨q, hq, rfl⟩ := List.mem_map.mp hn
    exact h q hq
  · obtain ⟨q, hq, rfl⟩ := List.mem_map.mp hn
    rcases List.mem_append.mp hq with e | e
    · exact h q e
    · simp at e; subst e; exact hk
theorem y_tells (ks : List (Int × Int)) (hg : Gd 16 120 ks) {K : Rv → List Sl → Prop} (h : K (.d (.bl true)) [.dat (Ci ks), .dat (.lst (kl (pl ks)))]) : Y G_l_tells [.dat (Ci ks), .dat (.lst (kl (pl ks)))] K NX := by
  have hl := pl_len ks
  have gp := pl_gd hg
  unfold G_l_tells B_l_tells
  walk_at "ys"
  refine y_pairsT _ (by omega) ?_
  walk_at "ys"
  refine y_pairsL _ (by omega) ?_
  walk_at "ys"
  refine Y_loop (I := fun q ρ => ∃ (dn rest : List (Int × Int)) (s : Sl), pl ks = dn ++ rest ∧ q = kl rest ∧ ρ = [.dat (Ci ks), .dat (.lst (kl (pl ks))), .dat (.int (ndP dn)), .dat (.int (pkP dn)), s] ∧ canSet s = true)
    ⟨[], pl ks, .un, rfl, rfl, rfl, rfl⟩ (fun e q ρ => ?_) (fun ρ => ?_)
  · rintro ⟨dn, rest, s, ek, er, rfl, c⟩
    cases rest with
    | nil => cases er
    | cons k rest =>
      have hd : ∀ k ∈ dn, 1 ≤ k.1 ∧ 1 ≤ k.2 := fun k hk => by
        have := gp k (by rw [ek]; exact List.mem_append_left _ hk)
        omega
      have hk := gp k (by rw [ek]; simp)
      obtain ⟨w, g⟩ := k
      cases er
      unfold kd
      walk_at "ys"
      refine ⟨c, ?_⟩
      refine ⟨dn ++ [(w, g)], rest, .dat (.tup [.int w, .int g]), by rw [ek]; simp, rfl, ?_, rfl⟩
      unfold ndP pkP
      rw [mx_snoc (f := fun k => k.2) (fun k hk => by have := hd k hk; show 0 ≤ k.2; omega) (show 0 ≤ g by have := hk.2.2.1; simp only at this; omega), mx_snoc (f := fun k => k.1) (fun k hk => by have := hd k hk; show 0 ≤ k.1; omega) (show 0 ≤ w by have := hk.1; simp only at this; omega)]
  · rintro ⟨dn, rest, s, ek, er, rfl, c⟩
    cases rest with
    | cons o rest => cases er
    | nil =>
      rw [List.append_nil] at ek
      rw [← ek]
      walk_at "ys"
      refine y_need ks ?_
      walk_at "ys"
      refine y_int _ ?_
      walk_at "ys"
      refine y_peak ks ?_
      walk_at "ys"
      refine y_int _ ?_
      walk_at "ys"
      refine y_need ks ?_
      walk_at "ys"
      refine y_peak ks ?_
      walk_at "ys"
      exact h
theorem y_lets (ks os : List (Int × Int)) (r : Int) (hg : ∀ k ∈ os, 0 ≤ k.1) (e : wl (pl ks) r = wl os r) {K : Rv → List Sl → Prop} (h : K (.d (.bl true)) [.dat (Ci ks), .dat (.lst (kl os)), .dat (.int r)]) : Y G_l_lets [.dat (Ci ks), .dat (.lst (kl os)), .dat (.int r)] K NX := by
  unfold G_l_lets B_l_lets
  walk_at "ys"
  refine y_longest ks r ?_
  walk_at "ys"
  refine y_int _ ?_
  walk_at "ys"
  refine y_longestL os r hg ?_
  rw [e]
  walk_at "ys"
  exact h
def fromW (w : Int) (ks : List (Int × Int)) : List Int := (ks.filter fun k => decide (w ≤ k.1)).map (·.2)
def fFrom (w : Int) (x : D) : Option D := match x with | .tup [.int v, .int g] => if w ≤ v then some (.int g) else none | _ => none
theorem fm_from (w : Int) : ∀ ms : List (Int × Int), (kl ms).filterMap (fFrom w) = (fromW w ms).map D.int
  | [] => rfl
  | k :: ms => by
    have ih := fm_from w ms
    show (kd k :: kl ms).filterMap (fFrom w) = _
    rw [List.filterMap_cons]
    have e : fFrom w (kd k) = if w ≤ k.1 then some (.int k.2) else none := rfl
    rw [e]
    unfold fromW at ih ⊢
    by_cases c : w ≤ k.1
    · rw [if_pos c, List.filter_cons_of_pos (by simpa using c), List.map_cons, List.map_cons, ← ih]
    · rw [if_neg c, List.filter_cons_of_neg (by simpa using c), ← ih]
theorem from_mem {w n : Int} {ks : List (Int × Int)} : n ∈ fromW w ks ↔ ∃ k ∈ ks, w ≤ k.1 ∧ k.2 = n := by
  unfold fromW
  constructor
  · intro h
    obtain ⟨k, hk, e⟩ := List.mem_map.mp h
    have := List.mem_filter.mp hk
    exact ⟨k, this.1, by simpa using this.2, e⟩
  · rintro ⟨k, hk, a, e⟩
    exact List.mem_map.mpr ⟨k, List.mem_filter.mpr ⟨hk, by simpa using a⟩, e⟩
theorem from_len (w : Int) (ks : List (Int × Int)) : (fromW w ks).length ≤ ks.length := by
  unfold fromW
  rw [List.length_map]
  exact List.length_filter_le _ _
theorem best_from {w : Int} {ks : List (Int × Int)} (hg : Gd 16 120 ks) : bestD min (fromW w (pl ks)) = if fromW w ks = [] then .non else .int (minI (fromW w ks)) := by
  have hp := hg.pos
  have sub : ∀ n ∈ fromW w (pl ks), n ∈ fromW w ks := fun n hn => by
    obtain ⟨k, hk, a, e⟩ := from_mem.mp hn
    exact from_mem.mpr ⟨k, pl_sub hp hk, a, e⟩
  have dom : ∀ n ∈ fromW w ks, ∃ m ∈ fromW w (pl ks), m ≤ n := fun n hn => by
    obtain ⟨k, hk, a, e⟩ := from_mem.mp hn
    obtain ⟨q, hq, q1, q2⟩ := pl_top hp (fun k hk => by have := hg k hk; omega) hk
    exact ⟨q.2, from_mem.mpr ⟨q, hq, by omega, rfl⟩, by omega⟩
  by_cases e : fromW w ks = []
  · rw [if_pos e]
    cases q : fromW w (pl ks) with
    | nil => rfl
    | cons n l =>
      have := sub n (by rw [q]; simp)
      rw [e] at this
      simp at this
  · rw [if_neg e]
    have m1 := minI_spec e
    obtain ⟨m, hm, l⟩ := dom _ m1.1
    have ne : fromW w (pl ks) ≠ [] := fun z => by rw [z] at hm; simp at hm
    have m2 := minI_spec ne
    have : bestD min (fromW w (pl ks)) = .int (minI (fromW w (pl ks))) := by
      cases q : fromW w (pl ks) with
      | nil => exact absurd q ne
      | cons n l => rfl
    rw [this]
    congr 1
    have a := m2.2 m hm
    have b := m1.2 _ (sub _ m2.1)
    omega

theorem y_least_run (ks : List (Int × Int)) (w : Int) {K : Rv → List Sl → Prop} {X : XC} (h : K (.d (bestD min (fromW w (pl ks)))) [.dat (Ci ks), .dat (.int w)]) : Y G_Climate_least_run [.dat (Ci ks), .dat (.int w)] K X := by
  have hl := pl_len ks
  unfold G_Climate_least_run B_Climate_least_run
  walk_at "ys"
  refine Y_lcGo (f := fFrom w) (ρ0 := [.dat (Ci ks), .dat (.int w), .un, .un]) (P := fun x => ∃ k ∈ pl ks, x = kd k) (fun x acc ⟨k, hk, e⟩ hl => ?_) _ _ (fun x hx => ?_) ?_ ?_
  · subst e
    obtain ⟨v, g⟩ := k
    have e : fFrom w (kd (v, g)) = if w ≤ v then some (.int g) else none := rfl
    rw [e]
    unfold kd
    walk_at "ys"
    split <;> rfl
  · obtain ⟨k, hk, e⟩ := List.mem_map.mp hx
    exact ⟨k, hk, e.symm⟩
  · rw [kl_len]
    simp
    omega
  · rw [List.nil_append, fm_from]
    walk_at "ys"
    refine ⟨_, ?_, h⟩
    unfold gBestN lints
    simp only [D.litems, Option.bind_some, D.ints_map, Option.map_some]
theorem gMin_ints {ns : List Int} (h : ns ≠ []) : gMinL [.lst (ns.map D.int)] = some (.int (minI ns)) := by
  unfold gMinL lints
  simp only [D.litems, Option.bind_some, D.ints_map]
  rw [if_pos h]
theorem y_starts (ks : List (Int × Int)) (w : Int) (hg : Gd 16 120 ks) (hl : ks.length ≤ 1000) {K : Rv → List Sl → Prop} (h : K (.d (.bl true)) [.dat (Ci ks), .dat (.lst (kl ks)), .dat (.int w)]) : Y G_l_starts [.dat (Ci ks), .dat (.lst (kl ks)), .dat (.int w)] K NX := by
  have fl := from_len w ks
  have b := best_from (w := w) hg
  unfold G_l_starts B_l_starts
  walk_at "ys"
  refine Y_lcGo (f := fFrom w) (ρ0 := [.dat (Ci ks), .dat (.lst (kl ks)), .dat (.int w), .un, .un, .un]) (P := fun x => ∃ k ∈ ks, x = kd k) (fun x acc ⟨k, hk, e⟩ hl => ?_) _ _ (fun x hx => ?_) ?_ ?_
  · subst e
    obtain ⟨v, g⟩ := k
    have e : fFrom w (kd (v, g)) = if w ≤ v then some (.int g) else none := rfl
    rw [e]
    unfold kd
    walk_at "ys"
    split <;> rfl
  · obtain ⟨k, hk, e⟩ := List.mem_map.mp hx
    exact ⟨k, hk, e.symm⟩
  · rw [kl_len]
    simp
    omega
  · rw [List.nil_append, fm_from]
    walk_at "ys"
    refine y_least_run ks w ?_
    rw [b]
    generalize fromW w ks = ns at *
    cases ns with
    | nil =>
      walk_at "ys"
      exact h
    | cons n ns =>
      rw [if_neg (by simp)]
      walk_at "ys"
      rw [if_neg (by omega)]
      refine y_int _ ?_
      walk_at "ys"
      have eg := gMin_ints (ns := n :: ns) (by simp)
      rw [List.map_cons] at eg
      rw [eg]
      refine ⟨_, rfl, ?_⟩
      walk_at "ys"
      rw [show decide True = true from by simp]
      exact h
theorem y_agrees (ks : List (Int × Int)) (hg : Gd 16 120 ks) (hl : ks.length ≤ 1000) {K : Rv → List Sl → Prop} (h : K (.d (.bl true)) [.dat (Ci ks), .dat (.lst (kl ks)), .dat (.lst (kl (pl ks)))]) : Y G_l_agrees [.dat (Ci ks), .dat (.lst (kl ks)), .dat (.lst (kl (pl ks)))] K NX := by
  unfold G_l_agrees B_l_agrees
  walk_at "ys"
  refine y_tells ks hg ?_
  walk_at "ys"
  refine ⟨by omega, ?_⟩
  refine Y_loop (I := fun r ρ => ∃ (i : Nat) (s3 : Sl), r = (rngD 0 (122 : Int).toNat).drop i ∧ ρ = [.dat (Ci ks), .dat (.lst (kl ks)), .dat (.lst (kl (pl ks))), s3, .un] ∧ canSet s3 = true) ⟨0, .un, rfl, rfl, rfl⟩ (fun x r ρ => ?_) (fun ρ => ?_)
  · rintro ⟨i, s3, er, rfl, c3⟩
    obtain ⟨hi, rfl, rfl⟩ := rngc_lt er
    walk_at "ys"
    refine ⟨c3, ?_⟩
    refine y_lets ks ks _ (fun k hk => by have := hg k hk; omega) (wl_pl hg _) ?_
    walk_at "ys"
    exact ⟨i + 1, _, rfl, rfl, rfl⟩
  · rintro ⟨i, s3, er, rfl, c3⟩
    walk_at "ys"
    refine ⟨by omega, ?_⟩
    refine Y_loop (I := fun r ρ => ∃ (i : Nat) (s4 : Sl), r = (rngD (-1) (19 - -1 : Int).toNat).drop i ∧ ρ = [.dat (Ci ks), .dat (.lst (kl ks)), .dat (.lst (kl (pl ks))), s3, s4] ∧ canSet s4 = true) ⟨0, .un, rfl, rfl, rfl⟩ (fun x r ρ => ?_) (fun ρ => ?_)
    · rintro ⟨i, s4, er, rfl, c4⟩
      obtain ⟨hi, rfl, rfl⟩ := rngc_lt er
      walk_at "ys"
      refine ⟨c4, ?_⟩
      refine y_starts ks _ hg hl ?_
      walk_at "ys"
      exact ⟨i + 1, _, rfl, rfl, rfl⟩
    · rintro ⟨i, s4, er, rfl, c4⟩
      walk_at "ys"
      exact h
theorem y_made (ks : List (Int × Int)) (hg : Gd 16 120 ks) (hl : ks.length ≤ 300) {K : Rv → List Sl → Prop} (h : K (.d (Ci ks)) [.dat (.lst (kl ks))]) : Y G_l_made [.dat (.lst (kl ks))] K NX := by
  unfold G_l_made B_l_made
  walk_at "ys"
  refine y_clim ks hg hl ?_
  walk_at "ys"
  exact h
theorem y_ceq (p q : List (Int × Int)) {K : Rv → List Sl → Prop} (h : K (.d (.bl (decide (pl p = pl q)))) [.dat (Ci p), .dat (Ci q)]) : Y G_Climate_eq [.dat (Ci p), .dat (Ci q)] K NX := by
  unfold G_Climate_eq B_Climate_eq
  walk_at "ys"
  rw [eqKT]
  exact ⟨_, rfl, h⟩
theorem y_equals (p q : List (Int × Int)) (c : Bool) (hc : decide (pl p = pl q) = c) {K : Rv → List Sl → Prop} (h : K (.d (.bl true)) [.dat (Ci p), .dat (Ci q), .dat (.bl c)]) : Y G_l_equals [.dat (Ci p), .dat (Ci q), .dat (.bl c)] K NX := by
  have hc' : decide (pl q = pl p) = c := by rw [← hc]; by_cases e : pl p = pl q <;> simp [e, eq_comm]
  unfold G_l_equals B_l_equals
  walk_at "ys"
  refine y_ceq p q ?_
  rw [hc]
  walk_at "ys"
  refine y_ceq q p ?_
  rw [hc']
  walk_at "ys"
  rw [beq_self_eq_true]
  exact h
theorem y_single (w g : Int) (hg : Gd 16 120 [(w, g)]) {K : Rv → List Sl → Prop} {X : XC} (h : K (.c (.obj .Climate [("kinds", .tup (kl (pl [(w, g)])))])) [.dat (.cl .Climate), .dat (.int w), .dat (.int g)]) : Y G_Climate_single [.dat (.cl .Climate), .dat (.int w), .dat (.int g)] K X := by
  unfold G_Climate_single B_Climate_single
  walk_at "ys"
  refine y_clim [(w, g)] hg (by simp) ?_
  walk_at "ys"
  exact h
theorem y_cdry {K : Rv → List Sl → Prop} {X : XC} (h : K (.c (.obj .Climate [("kinds", .tup (kl (pl [])))])) []) : Y G_Climate_dry [] K X := by
  unfold G_Climate_dry B_Climate_dry
  walk_at "ys"
  refine y_clim [] (fun k hk => by simp at hk) (by simp) ?_
  walk_at "ys"
  exact h

theorem msgM {n : Int} (h1 : 0 ≤ n) (h2 : n ≤ 1199) : n.natAbs.log2 < 1920 ∧ (Str.empty ++ Str.ofString (toString n)).length ≤ 16777216 ∧ (Str.empty ++ Str.ofString (toString n) ++ Str.ofString " kinds are too many for a climate").length ≤ 16777216 := by
  have e0 : Str.empty.length = 0 := by decide
  have e1 : (Str.ofString " kinds are too many for a climate").length = 33 := by decide
  have l1 := ts_len (i := n) (by omega) h2
  simp only [sl_app, e0, e1]
  exact ⟨lg_len (by omega) h2, by omega, by omega⟩
/-- kinds that no climate has -/
def BadKs (ks : List (Int × Int)) : Prop := (300 < ks.length ∧ ks.length ≤ 1000) ∨ (ks.length ≤ 300 ∧ ∃ (as bs : List (Int × Int)) (w g : Int), ks = as ++ [(w, g)] ++ bs ∧ Gd 16 120 as ∧ NoK w g)
theorem y_checks_no (ks : List (Int × Int)) (hb : BadKs ks) {K : Rv → List Sl → Prop} {X : XC} (h : X .BadKind none [.dat (.lst (kl ks))]) : Y G_f_check_kinds [.dat (.lst (kl ks))] K X := by
  unfold G_f_check_kinds B_f_check_kinds
  rcases hb with ⟨l1, l2⟩ | ⟨l1, as, bs, w, g, e, ha, hn⟩
  · obtain ⟨m1, m2, m3⟩ := msgM (n := (ks.length : Int)) (by omega) (by omega)
    walk_at "ys"
    rw [kl_len, if_pos (by omega)]
    exact ⟨m1, m2, m3, h⟩
  · walk_at "ys"
    rw [kl_len, if_neg (by omega)]
    refine Y_loop (I := fun r ρ => ∃ (ms : List (Int × Int)) (s1 s2 : Sl), r = kl (ms ++ [(w, g)] ++ bs) ∧ (∀ k ∈ ms, k ∈ as) ∧ ρ = [.dat (.lst (kl ks)), s1, s2] ∧ canSet s1 = true ∧ canSet s2 = true)
      ⟨as, .un, .un, by rw [e], fun _ h => h, rfl, rfl, rfl⟩ (fun e r ρ => ?_) (fun ρ => ?_)
    · rintro ⟨ms, s1, s2, er, sub, rfl, c1, c2⟩
      cases ms with
      | nil =>
        cases er
        unfold kd
        walk_at "ys"
        refine ⟨c1, c2, ?_⟩
        refine y_badkind w g hn.2.1 hn.2.2.1 hn.2.2.2.1 hn.2.2.2.2 hn.1 ?_
        exact h
      | cons k ms =>
        obtain ⟨v, r⟩ := k
        cases er
        have := ha (v, r) (sub _ List.mem_cons_self)
        unfold kd
        walk_at "ys"
        refine ⟨c1, c2, ?_⟩
        refine y_check_kind _ _ this.1 this.2.1 this.2.2.1 this.2.2.2 ?_
        exact ⟨ms, _, _, rfl, fun k hk => sub k (List.mem_cons_of_mem _ hk), rfl, rfl, rfl⟩
    · rintro ⟨ms, s1, s2, er, sub, rfl, c1, c2⟩
      cases ms <;> cases er
theorem y_clim_no (ks : List (Int × Int)) (hb : BadKs ks) {K : Rv → List Sl → Prop} {X : XC} (h : X .BadKind none [.cel .par (.obj .Climate []), .dat (.lst (kl ks))]) : Y G_Climate_init [.cel .par (.obj .Climate []), .dat (.lst (kl ks))] K X := by
  unfold G_Climate_init B_Climate_init
  walk_at "ys"
  refine y_checks_no ks hb ?_
  exact h
theorem y_refuses (ks : List (Int × Int)) (hb : BadKs ks) {K : Rv → List Sl → Prop} (h : K (.d (.bl true)) [.dat (.lst (kl ks))]) : Y G_l_refuses [.dat (.lst (kl ks))] K NX := by
  unfold G_l_refuses B_l_refuses
  walk_at "ys"
  refine y_clim_no ks hb ?_
  walk_at "ys"
  rw [eqK_refl]
  exact ⟨_, rfl, h⟩
theorem y_single_no (w g : Int) (hn : NoK w g) {K : Rv → List Sl → Prop} {X : XC} (h : X .BadKind none [.dat (.cl .Climate), .dat (.int w), .dat (.int g)]) : Y G_Climate_single [.dat (.cl .Climate), .dat (.int w), .dat (.int g)] K X := by
  unfold G_Climate_single B_Climate_single
  walk_at "ys"
  refine y_clim_no [(w, g)] (.inr ⟨by simp, [], [], w, g, rfl, fun k hk => by simp at hk, hn⟩) ?_
  exact h
theorem y_single_refuses (w g : Int) (hn : NoK w g) {K : Rv → List Sl → Prop} (h : K (.d (.bl true)) [.dat (.tup [.int w, .int g])]) : Y G_l_single_refuses [.dat (.tup [.int w, .int g])] K NX := by
  unfold G_l_single_refuses B_l_single_refuses
  walk_at "ys"
  refine y_single_no w g hn ?_
  walk_at "ys"
  exact h

theorem y_takeL (x y z s : Int) (h1 : 1 ≤ s) (h2 : s < 1073741824) {K : Rv → List Sl → Prop} (h : ∀ d x' y' z' : Int, 0 ≤ d → d < s → K (.d (.int d)) [Po x' y' z', .dat (.int s)]) : Y G_l_take [Po x y z, .dat (.int s)] K NX := by
  unfold G_l_take B_l_take
  walk_at "ys"
  split
  · exact ⟨by omega, dOk (by omega) (by omega), h _ _ _ _ (Int.emod_nonneg _ (by omega)) (Int.emod_lt_of_pos _ (by omega))⟩
  · refine ⟨mOkL (by omega), by omega, ?_⟩
    generalize e1 : (y + 48271 * (z + 1) + 12345) % 2147483647 = u
    have u1 : 0 ≤ u ∧ u < 2147483647 := by omega
    refine ⟨mOkL (by omega), mOkL (by omega), by omega, ?_⟩
    generalize e2 : (u * u + 16807 * (z + 1) + 7) % 2147483629 = v
    have v1 : 0 ≤ v ∧ v < 2147483629 := by
      rw [← e2]; exact ⟨Int.emod_nonneg _ (by omega), Int.emod_lt_of_pos _ (by omega)⟩
    refine ⟨mOkL (by omega), mOkL (by omega), by omega, dOk (by omega) (by omega), by omega, ?_⟩
    exact h _ _ _ _ (Int.emod_nonneg _ (by omega)) (Int.emod_lt_of_pos _ (by omega))
theorem pl_one {w g : Int} (w1 : 1 ≤ w) (w2 : w ≤ 16) (g1 : 1 ≤ g) : pl [(w, g)] = [(w, g)] := by
  have hp : Pos2 [(w, g)] := fun k hk => by simp at hk; subst hk; exact g1
  have := pl_of_keys (ks := [(w, g)]) hp (fun k hk => by simp at hk; subst hk; exact ⟨w1, w2⟩) (ws := [w]) (by simp) (fun v => by simp [eq_comm])
  rw [← this]
  have e1 : lr [(w, g)] w = g := by unfold lr; simp
  have e2 : lr [(w, g)] (w + 1) = 0 := by unfold lr; simp; omega
  have : keepW [(w, g)] w = true := by unfold keepW; rw [e1, e2]; simp; omega
  simp [this, e1]
theorem pl_mem {ks : List (Int × Int)} (hg : Gd 16 120 ks) : ∀ k, k ∈ pl ks ↔ k ∈ ks ∧ nd k ks = false := by
  have hp := hg.pos
  have mem : ∀ k, k ∈ pl ks ↔ k ∈ ks ∧ nd k ks = false := fun k => by
    constructor
    · intro hk
      refine ⟨pl_sub hp hk, ?_⟩
      unfold nd
      rw [List.any_eq_false]
      intro o ho
      rw [decide_eq_true_iff]
      rintro ⟨n, a, b⟩
      obtain ⟨q, hq, q1, q2⟩ := pl_top hp (fun k hk => by have := hg k hk; omega) ho
      rcases pw_tri (pl_pw hp) hk hq with e | e | e
      · subst e
        exact n (Prod.ext (by omega) (by omega))
      · omega
      · omega
    · rintro ⟨hk, hn⟩
      obtain ⟨q, hq, q1, q2⟩ := pl_top hp (fun k hk => by have := hg k hk; omega) hk
      unfold nd at hn
      rw [List.any_eq_false] at hn
      have := hn q (pl_sub hp hq)
      rw [decide_eq_true_iff] at this
      by_cases e : q = k
      · rw [← e]; exact hq
      · exact absurd ⟨e, q1, q2⟩ this
  exact mem
theorem pl_ext {ks ms : List (Int × Int)} (hg : Gd 16 120 ks) (hm : Gd 16 120 ms) (h : ∀ k, k ∈ ks ↔ k ∈ ms) : pl ks = pl ms := by
  have hn : ∀ k, nd k ks = nd k ms := fun k => by
    unfold nd
    (rw [Bool.eq_iff_iff, List.any_eq_true, List.any_eq_true])
    exact ⟨fun ⟨o, a, b⟩ => ⟨o, (h o).mp a, b⟩, fun ⟨o, a, b⟩ => ⟨o, (h o).mpr a, b⟩⟩
  have nodup : ∀ {ks : List (Int × Int)}, Gd 16 120 ks → (pl ks).Nodup := fun {ks} hg => (pl_pw hg.pos).imp fun q e => by subst e; omega
  refine asc_uniq ((List.perm_ext_iff_of_nodup (nodup hg) (nodup hm)).mpr fun k => ?_) ((pl_pw hg.pos).imp fun q => .inl q.1) ((pl_pw hm.pos).imp fun q => .inl q.1)
  rw [pl_mem hg, pl_mem hm, h, hn]
theorem eqKL (ks ms : List (Int × Int)) : D.eq? (.lst (kl ks)) (.lst (kl ms)) = some (decide (ks = ms)) := by
  have e : ∀ ks, D.py (.lst (kl ks)) = some (.list (ks.map kp)) := fun ks => by rw [D.py, pys_kl]; rfl
  have sh : ∀ ks : List (Int × Int), SeqAt.shaped (.list (ks.map kp)) = true := fun ks => by
    have h0 : PyData.canLay0 (.list (ks.map kp)) = true := by rw [PyData.canLay0]; exact lay_kp ks
    have := dep_kp ks
    unfold SeqAt.shaped
    rw [h0, PyData.depth, Bool.true_and, decide_eq_true (by omega)]
  show (match D.py (.lst (kl ks)), D.py (.lst (kl ms)) with
    | some x, some y => if SeqAt.shaped x && SeqAt.shaped y then some (PyData.eqv x y) else none
    | _, _ => none) = _
  rw [e, e]
  have h3 : PyData.eqv (.list (ks.map kp)) (.list (ms.map kp)) = decide (ks = ms) := by rw [PyData.eqv]; exact eqv_kps ks ms
  simp [sh, h3]
theorem pl_nil : pl [] = [] := by decide +kernel
theorem pl_two : pl [(16, 120), (1, 1)] = [(1, 1), (16, 120)] := by decide +kernel
theorem rep_kl (n : Nat) (ks : List (Int × Int)) : rep n (kl ks) = kl (List.replicate n ks).flatten := by
  unfold kl
  first
  | (unfold rep; simp [List.map_flatten])
  | (induction n with
    | zero => rfl
    | succ n ih => simp [rep, List.replicate_succ, ih])
theorem rep_len (n : Nat) (ks : List (Int × Int)) : (List.replicate n ks).flatten.length = n * ks.length := by simp
theorem rep_take {n m : Nat} {ks : List (Int × Int)} (h : ks.length ≤ m) (hn : 1 ≤ n) : ∀ k, k ∈ ((List.replicate n ks).flatten).take m ↔ k ∈ ks := fun k => by
  constructor
  · intro hk
    have := List.mem_of_mem_take hk
    obtain ⟨l, hl, q⟩ := List.mem_flatten.mp this
    rw [(List.mem_replicate.mp hl).2] at q
    exact q
  · intro hk
    obtain ⟨n', rfl⟩ : ∃ n', n = n' + 1 := ⟨n - 1, by omega⟩
    rw [List.replicate_succ, List.flatten_cons, List.take_append, List.mem_append]
    left
    rw [List.take_of_length_le h]
    exact hk

theorem cut_kl (ks : List (Int × Int)) (n : Nat) : cut (kl ks) none (some (n : Int)) = kl (ks.take n) := by
  rw [cut_to _ (by omega)]
  unfold kl
  rw [List.map_take]
  rfl
theorem cut_300 (ks : List (Int × Int)) : cut (kl ks) none (some 300) = kl (ks.take 300) := cut_kl ks 300
theorem cut_301 (ks : List (Int × Int)) : cut (kl ks) none (some 301) = kl (ks.take 301) := cut_kl ks 301
theorem many_kl {ks : List (Int × Int)} (hl : ks.length ≤ 17) (h1 : 1 ≤ ks.length) : ∃ R : List (Int × Int), cRep (.lst (kl ks)) (.int 301) = some (.lst (kl R)) ∧ 301 ≤ R.length ∧ (∀ m, 17 ≤ m → ∀ k, k ∈ R.take m ↔ k ∈ ks) ∧ True := by
  refine ⟨(List.replicate 301 ks).flatten, ?_, by rw [rep_len]; omega, fun m hm => rep_take (by omega) (by omega), trivial⟩
  show (if -(2 ^ 63) ≤ (301 : Int) ∧ (301 : Int) < 2 ^ 63 ∧ (kl ks).length * (301 : Int).toNat ≤ 16777216 then some (CC.lst (rep (301 : Int).toNat (kl ks))) else none) = _
  rw [if_pos ⟨by omega, by omega, by rw [kl_len, show (301 : Int).toNat = 301 from rfl]; omega⟩, rep_kl]
  rfl
theorem rev_take {ks : List (Int × Int)} {i : Nat} (h : i < ks.length) : ks.reverse.take (i + 1) = ks.reverse.take i ++ [ks[((ks.length : Int) - 1 - (0 + (i : Int))).toNat]'(by omega)] := by
  have h' : i < ks.reverse.length := by rw [List.length_reverse]; exact h
  rw [List.take_add_one, List.getElem?_eq_getElem h', List.getElem_reverse]
  have e : ks.length - 1 - i = ((ks.length : Int) - 1 - (0 + (i : Int))).toNat := by omega
  simp only [e]
  rfl
theorem erase_ins {ks : List (Int × Int)} {n : Nat} {x : Int × Int} (h : n ≤ ks.length) : (ks.take n ++ [x] ++ ks.drop n).eraseIdx n = ks := by
  have hl : (ks.take n).length = n := by rw [List.length_take]; omega
  rw [List.append_assoc, List.eraseIdx_append_of_length_le (by omega), hl, Nat.sub_self]
  exact List.take_append_drop n ks
theorem y_tellsP (ks P : List (Int × Int)) (e : pl ks = P) (hg : Gd 16 120 ks) {K : Rv → List Sl → Prop} (h : K (.d (.bl true)) [.dat (Ci ks), .dat (.lst (kl P))]) : Y G_l_tells [.dat (Ci ks), .dat (.lst (kl P))] K NX := by
  subst e
  exact y_tells ks hg h
theorem lfree_kl : ∀ ks : List (Int × Int), D.lfrees (kl ks) = true
  | [] => rfl
  | k :: ks => by show (true && D.lfrees (kl ks)) = true; rw [lfree_kl ks]; rfl
theorem y_law (ns : List Int) {K : Rv → List Sl → Prop} (h : ∀ ρ, K (.d (.bl true)) ρ) : Y G_l_law [.dat (.sq (ns.map D.int))] K NX := by
  unfold G_l_law B_l_law
  rw [Y_run0]
  show Y _ [.dat (.sq (ns.map D.int)), .un, .un, .un, .un, .un, .un, .un, .un, .un, .un, .un, .un, .un, .un, .un, .un, .un, .un] _ _
  refine Y_cut (J := fun ρ => ∃ ks : List (Int × Int), Gd 16 120 ks ∧ ks.length ≤ 16 ∧ ρ = [.dat (.sq (ns.map D.int)), .dat (.lst (kl ks)), .un, .un, .un, .un, .un, .un, .un, .un, .un, .un, .un, .un, .un, .un, .un, .un, .un]) ?_ ?_
  · walk_at "ys"
    refine y_cell ns 0 (by omega) fun q => ?_
    walk_at "ys"
    refine y_pool q fun x y z => ?_
    walk_at "ys"
    refine y_kinds _ _ _ fun ks x1 y1 z1 hg hl => ?_
    walk_at "ys"
    exact ⟨ks, hg, hl, rfl⟩
  rintro _ ⟨ks, hg, hl, rfl⟩
  refine Y_cut (J := fun ρ => ρ = [.dat (.sq (ns.map D.int)), .dat (.lst (kl ks)), .dat (.lst (kl (pl ks))), .un, .un, .un, .un, .un, .un, .un, .un, .un, .un, .un, .un, .un, .un, .un, .un]) ?_ ?_
  · walk_at "ys"
    refine y_plainL ks hg (by omega) ?_
    walk_at "ys"
  rintro _ rfl
  refine Y_cut (J := fun ρ => ∃ x y z : Int, ρ = [.dat (.sq (ns.map D.int)), .dat (.lst (kl ks)), .dat (.lst (kl (pl ks))), .cel .own (.lst [.int x, .int y, .int z]), .un, .un, .un, .un, .un, .un, .un, .un, .un, .un, .un, .un, .un, .un, .un]) ?_ ?_
  · walk_at "ys"
    refine y_cell ns 1 (by omega) fun q => ?_
    walk_at "ys"
    refine y_pool q fun x y z => ?_
    walk_at "ys"
    exact ⟨x, y, z, rfl⟩
  rintro _ ⟨x, y, z, rfl⟩
  refine Y_cut (J := fun ρ => ∃ (os : List (Int × Int)) (x y z : Int), Gd 16 120 os ∧ os.length ≤ 16 ∧ ρ = [.dat (.sq (ns.map D.int)), .dat (.lst (kl ks)), .dat (.lst (kl (pl ks))), .cel .own (.lst [.int x, .int y, .int z]), .dat (.lst (kl os)), .un, .un, .un, .un, .un, .un, .un, .un, .un, .un, .un, .un, .un, .un]) ?_ ?_
  · walk_at "ys"
    refine y_other _ _ _ ks hg hl fun os x1 y1 z1 ho hol => ?_
    walk_at "ys"
    exact ⟨os, _, _, _, ho, hol, rfl⟩
  rintro _ ⟨os, x, y, z, ho, hol, rfl⟩
  refine Y_cut (J := fun ρ => ∃ w x y z : Int, (1 ≤ w ∧ w ≤ 16) ∧ ρ = [.dat (.sq (ns.map D.int)), .dat (.lst (kl ks)), .dat (.lst (kl (pl ks))), .cel .own (.lst [.int x, .int y, .int z]), .dat (.lst (kl os)), .dat (.int w), .un, .un, .un, .un, .un, .un, .un, .un, .un, .un, .un, .un, .un]) ?_ ?_
  · walk_at "ys"
    refine y_take _ _ _ _ (by omega) (by omega) fun w x1 y1 z1 w1 w2 => ?_
    walk_at "ys"
    exact ⟨_, _, _, _, ⟨by omega, by omega⟩, rfl⟩
  rintro _ ⟨w, x, y, z, ⟨w1, w2⟩, rfl⟩
  refine Y_cut (J := fun ρ => ∃ g x y z : Int, (1 ≤ g ∧ g ≤ 120) ∧ ρ = [.dat (.sq (ns.map D.int)), .dat (.lst (kl ks)), .dat (.lst (kl (pl ks))), .cel .own (.lst [.int x, .int y, .int z]), .dat (.lst (kl os)), .dat (.int w), .dat (.tup [.int w, .int g]), .un, .un, .un, .un, .un, .un, .un, .un, .un, .un, .un, .un]) ?_ ?_
  · walk_at "ys"
    refine y_take _ _ _ _ (by omega) (by omega) fun g x1 y1 z1 g1 g2 => ?_
    walk_at "ys"
    exact ⟨_, _, _, _, ⟨by omega, by omega⟩, rfl⟩
  rintro _ ⟨g, x, y, z, ⟨g1, g2⟩, rfl⟩
  refine Y_cut (J := fun ρ => ∃ far x y z : Int, ρ = [.dat (.sq (ns.map D.int)), .dat (.lst (kl ks)), .dat (.lst (kl (pl ks))), .cel .own (.lst [.int x, .int y, .int z]), .dat (.lst (kl os)), .dat (.int w), .dat (.tup [.int w, .int g]), .dat (.int far), .un, .un, .un, .un, .un, .un, .un, .un, .un, .un, .un]) ?_ ?_
  · walk_at "ys"
    refine ⟨by decide, ?_⟩
    rw [show (10 : Int) ^ Int.toNat 9 = 1000000000 from by decide]
    refine y_takeL _ _ _ _ (by omega) (by omega) fun far x1 y1 z1 f1 f2 => ?_
    walk_at "ys"
    exact ⟨_, _, _, _, rfl⟩
  rintro _ ⟨far, x, y, z, rfl⟩
  have gk : Gd 16 120 [(w, g)] := Gd.one w1 w2 g1 g2
  have hk1 : ∀ k ∈ ks, 0 ≤ k.1 := fun k hk => by have := hg k hk; omega
  have ho1 : ∀ k ∈ os, 0 ≤ k.1 := fun k hk => by have := ho k hk; omega
  have gk1 : ∀ k ∈ [(w, g)], 0 ≤ k.1 := fun k hk => by have := gk k hk; omega
  have p1 : pl [(w, g)] = [(w, g)] := pl_one w1 w2 g1
  refine Y_cut (J := fun ρ => ρ = [.dat (.sq (ns.map D.int)), .dat (.lst (kl ks)), .dat (.lst (kl (pl ks))), .cel .own (.lst [.int x, .int y, .int z]), .dat (.lst (kl os)), .dat (.int w), .dat (.tup [.int w, .int g]), .dat (.int far), .cel .own (.lst (kl ks)), .un, .un, .un, .un, .un, .un, .un, .un, .un, .un]) ?_ ?_
  · walk_at "ys"
  rintro _ rfl
  refine Y_cut (J := fun ρ => ρ = [.dat (.sq (ns.map D.int)), .dat (.lst (kl ks)), .dat (.lst (kl (pl ks))), .cel .own (.lst [.int x, .int y, .int z]), .dat (.lst (kl os)), .dat (.int w), .dat (.tup [.int w, .int g]), .dat (.int far), .cel .own (.lst (kl ks)), .dat (Ci ks), .un, .un, .un, .un, .un, .un, .un, .un, .un]) ?_ ?_
  · walk_at "ys"
    refine y_made ks hg (by omega) ?_
    walk_at "ys"
    try exact lfree_kl _
  rintro _ rfl
  refine Y_cut (J := fun ρ => ρ = [.dat (.sq (ns.map D.int)), .dat (.lst (kl ks)), .dat (.lst (kl (pl ks))), .cel .own (.lst [.int x, .int y, .int z]), .dat (.lst (kl os)), .dat (.int w), .dat (.tup [.int w, .int g]), .dat (.int far), .cel .own (.lst (kl ks)), .dat (Ci ks), .un, .un, .un, .un, .un, .un, .un, .un, .un]) ?_ ?_
  · walk_at "ys"
    rw [eqK_refl]
    walk_at "ys"
    refine y_agrees ks hg (by omega) ?_
    walk_at "ys"
  rintro _ rfl
  refine Y_cut (J := fun ρ => ρ = [.dat (.sq (ns.map D.int)), .dat (.lst (kl ks)), .dat (.lst (kl (pl ks))), .cel .own (.lst [.int x, .int y, .int z]), .dat (.lst (kl os)), .dat (.int w), .dat (.tup [.int w, .int g]), .dat (.int far), .cel .own (.lst (kl (ks ++ [(16, 1)]))), .dat (Ci ks), .un, .un, .un, .un, .un, .un, .un, .un, .un]) ?_ ?_
  · walk_at "ys"
    refine ⟨by rw [kl_len]; omega, ?_⟩
    rw [← kl_snoc]
  rintro _ rfl
  refine Y_cut (J := fun ρ => ∃ L : List D, ρ = [.dat (.sq (ns.map D.int)), .dat (.lst (kl ks)), .dat (.lst (kl (pl ks))), .cel .own (.lst [.int x, .int y, .int z]), .dat (.lst (kl os)), .dat (.int w), .dat (.tup [.int w, .int g]), .dat (.int far), .cel .own (.lst L), .dat (Ci ks), .un, .un, .un, .un, .un, .un, .un, .un, .un]) ?_ ?_
  · walk_at "ys"
    refine ⟨_, ixN_J (Int.le_refl 0) (by rw [kl_len]; simp), ?_⟩
    exact ⟨_, rfl⟩
  rintro _ ⟨L, rfl⟩
  refine Y_cut (J := fun ρ => ρ = [.dat (.sq (ns.map D.int)), .dat (.lst (kl ks)), .dat (.lst (kl (pl ks))), .cel .own (.lst [.int x, .int y, .int z]), .dat (.lst (kl os)), .dat (.int w), .dat (.tup [.int w, .int g]), .dat (.int far), .cel .own (.lst L), .dat (Ci ks), .dat (Ci ks.reverse), .un, .un, .un, .un, .un, .un, .un, .un]) ?_ ?_
  · walk_at "ys"
    rw [kl_len]
    refine ⟨by omega, ?_⟩
    refine Y_lcI (I := fun r acc ρ => ∃ i : Nat, r = (rngD 0 (ks.length : Int).toNat).drop i ∧ i ≤ ks.length ∧ acc = kl (ks.reverse.take i) ∧ ρ = [.dat (.sq (ns.map D.int)), .dat (.lst (kl ks)), .dat (.lst (kl (pl ks))), .cel .own (.lst [.int x, .int y, .int z]), .dat (.lst (kl os)), .dat (.int w), .dat (.tup [.int w, .int g]), .dat (.int far), .cel .own (.lst L), .dat (Ci ks), .un, .un, .un, .un, .un, .un, .un, .un, .un]) ⟨0, rfl, by omega, rfl, rfl⟩ (fun o r acc ρ => ?_) (fun acc ρ => ?_)
    · rintro ⟨i, er, il, rfl, rfl⟩
      obtain ⟨hi, rfl, rfl⟩ := rngc_lt er
      refine ⟨by rw [kl_len, List.length_take]; omega, ?_⟩
      walk_at "ys"
      rw [kl_len, kl_atK (by omega) (by omega)]
      walk_at "ys"
      exact ⟨i + 1, rfl, by omega, by rw [kl_snocJ, rev_take (by omega)]⟩
    · rintro ⟨i, er, il, rfl, rfl⟩
      have := rngc_ge er
      rw [List.take_of_length_le (by rw [List.length_reverse]; omega)]
      walk_at "ys"
      refine y_made ks.reverse (hg.sub fun k hk => List.mem_reverse.mp hk) (by rw [List.length_reverse]; omega) ?_
      walk_at "ys"
  rintro _ rfl
  refine Y_cut (J := fun ρ => ρ = [.dat (.sq (ns.map D.int)), .dat (.lst (kl ks)), .dat (.lst (kl (pl ks))), .cel .own (.lst [.int x, .int y, .int z]), .dat (.lst (kl os)), .dat (.int w), .dat (.tup [.int w, .int g]), .dat (.int far), .cel .own (.lst L), .dat (Ci ks), .dat (Ci ks.reverse), .dat (Ci os), .un, .un, .un, .un, .un, .un, .un]) ?_ ?_
  · walk_at "ys"
    refine y_made os ho (by omega) ?_
    walk_at "ys"
  rintro _ rfl
  refine Y_cut (J := fun ρ => ρ = [.dat (.sq (ns.map D.int)), .dat (.lst (kl ks)), .dat (.lst (kl (pl ks))), .cel .own (.lst [.int x, .int y, .int z]), .dat (.lst (kl os)), .dat (.int w), .dat (.tup [.int w, .int g]), .dat (.int far), .cel .own (.lst L), .dat (Ci ks), .dat (Ci ks.reverse), .dat (Ci os), .un, .un, .un, .un, .un, .un, .un]) ?_ ?_
  · walk_at "ys"
    refine y_tells ks hg ?_
    walk_at "ys"
    refine y_lets ks ks far hk1 (wl_pl hg _) ?_
    walk_at "ys"
    refine y_starts ks 1 hg (by omega) ?_
    walk_at "ys"
  rintro _ rfl
  refine Y_cut (J := fun ρ => ρ = [.dat (.sq (ns.map D.int)), .dat (.lst (kl ks)), .dat (.lst (kl (pl ks))), .cel .own (.lst [.int x, .int y, .int z]), .dat (.lst (kl os)), .dat (.int w), .dat (.tup [.int w, .int g]), .dat (.int far), .cel .own (.lst L), .dat (Ci ks), .dat (Ci ks.reverse), .dat (Ci os), .un, .un, .un, .un, .un, .un, .un]) ?_ ?_
  · walk_at "ys"
    refine y_equals ks ks.reverse true (decide_eq_true (pl_ext hg (hg.sub fun k hk => List.mem_reverse.mp hk) fun k => List.mem_reverse.symm)) ?_
    walk_at "ys"
    refine y_plainL os ho (by omega) ?_
    walk_at "ys"
    rw [eqKL]
    refine ⟨_, rfl, ?_⟩
    refine y_equals ks os _ rfl ?_
    walk_at "ys"
  rintro _ rfl
  refine Y_cut (J := fun ρ => ρ = [.dat (.sq (ns.map D.int)), .dat (.lst (kl ks)), .dat (.lst (kl (pl ks))), .cel .own (.lst [.int x, .int y, .int z]), .dat (.lst (kl os)), .dat (.int w), .dat (.tup [.int w, .int g]), .dat (.int far), .cel .own (.lst L), .dat (Ci ks), .dat (Ci ks.reverse), .dat (Ci os), .un, .un, .un, .un, .un, .un, .un]) ?_ ?_
  · walk_at "ys"
    refine y_plainL os ho (by omega) ?_
    walk_at "ys"
    refine y_tells os ho ?_
    walk_at "ys"
    refine y_lets os os far ho1 (wl_pl ho _) ?_
    walk_at "ys"
  rintro _ rfl
  refine Y_cut (J := fun ρ => ρ = [.dat (.sq (ns.map D.int)), .dat (.lst (kl ks)), .dat (.lst (kl (pl ks))), .cel .own (.lst [.int x, .int y, .int z]), .dat (.lst (kl os)), .dat (.int w), .dat (.tup [.int w, .int g]), .dat (.int far), .cel .own (.lst L), .dat (Ci ks), .dat (Ci ks.reverse), .dat (Ci os), .dat (Ci [(w, g)]), .un, .un, .un, .un, .un, .un]) ?_ ?_
  · walk_at "ys"
    refine y_single w g gk ?_
    walk_at "ys"
  rintro _ rfl
  refine Y_cut (J := fun ρ => ρ = [.dat (.sq (ns.map D.int)), .dat (.lst (kl ks)), .dat (.lst (kl (pl ks))), .cel .own (.lst [.int x, .int y, .int z]), .dat (.lst (kl os)), .dat (.int w), .dat (.tup [.int w, .int g]), .dat (.int far), .cel .own (.lst L), .dat (Ci ks), .dat (Ci ks.reverse), .dat (Ci os), .dat (Ci [(w, g)]), .un, .un, .un, .un, .un, .un]) ?_ ?_
  · walk_at "ys"
    refine y_tellsP [(w, g)] [(w, g)] p1 gk ?_
    walk_at "ys"
    refine y_lets [(w, g)] [(w, g)] g gk1 (wl_pl gk _) ?_
    walk_at "ys"
    refine y_lets [(w, g)] [(w, g)] far gk1 (wl_pl gk _) ?_
    walk_at "ys"
  rintro _ rfl
  refine Y_cut (J := fun ρ => ρ = [.dat (.sq (ns.map D.int)), .dat (.lst (kl ks)), .dat (.lst (kl (pl ks))), .cel .own (.lst [.int x, .int y, .int z]), .dat (.lst (kl os)), .dat (.int w), .dat (.tup [.int w, .int g]), .dat (.int far), .cel .own (.lst L), .dat (Ci ks), .dat (Ci ks.reverse), .dat (Ci os), .dat (Ci [(w, g)]), .un, .un, .un, .un, .un, .un]) ?_ ?_
  · walk_at "ys"
    refine y_lets [(w, g)] [(w, g)] (g - 1) gk1 (wl_pl gk _) ?_
    walk_at "ys"
    refine y_made [(w, g), (w, g)] (fun k hk => gk k (by simpa using hk)) (by simp) ?_
    walk_at "ys"
    refine y_equals [(w, g)] [(w, g), (w, g)] true (decide_eq_true (pl_ext gk (fun k hk => gk k (by simpa using hk)) fun k => by simp)) ?_
    walk_at "ys"
  rintro _ rfl
  refine Y_cut (J := fun ρ => ρ = [.dat (.sq (ns.map D.int)), .dat (.lst (kl ks)), .dat (.lst (kl (pl ks))), .cel .own (.lst [.int x, .int y, .int z]), .dat (.lst (kl os)), .dat (.int w), .dat (.tup [.int w, .int g]), .dat (.int far), .cel .own (.lst L), .dat (Ci ks), .dat (Ci ks.reverse), .dat (Ci os), .dat (Ci [(w, g)]), .dat (Ci []), .un, .un, .un, .un, .un]) ?_ ?_
  · walk_at "ys"
    refine y_cdry ?_
    walk_at "ys"
  rintro _ rfl
  refine Y_cut (J := fun ρ => ρ = [.dat (.sq (ns.map D.int)), .dat (.lst (kl ks)), .dat (.lst (kl (pl ks))), .cel .own (.lst [.int x, .int y, .int z]), .dat (.lst (kl os)), .dat (.int w), .dat (.tup [.int w, .int g]), .dat (.int far), .cel .own (.lst L), .dat (Ci ks), .dat (Ci ks.reverse), .dat (Ci os), .dat (Ci [(w, g)]), .dat (Ci []), .un, .un, .un, .un, .un]) ?_ ?_
  · walk_at "ys"
    refine y_tellsP [] [] pl_nil (fun k hk => by simp at hk) ?_
    walk_at "ys"
    refine y_lets [] [] far (fun k hk => by simp at hk) (by rw [pl_nil]) ?_
    walk_at "ys"
    refine y_starts [] 0 (fun k hk => by simp at hk) (by simp) ?_
    walk_at "ys"
  rintro _ rfl
  refine Y_cut (J := fun ρ => ρ = [.dat (.sq (ns.map D.int)), .dat (.lst (kl ks)), .dat (.lst (kl (pl ks))), .cel .own (.lst [.int x, .int y, .int z]), .dat (.lst (kl os)), .dat (.int w), .dat (.tup [.int w, .int g]), .dat (.int far), .cel .own (.lst L), .dat (Ci ks), .dat (Ci ks.reverse), .dat (Ci os), .dat (Ci [(w, g)]), .dat (Ci []), .un, .un, .un, .un, .un]) ?_ ?_
  · have g2 : Gd 16 120 [(16, 120), (1, 1)] := (Gd.one (by omega) (by omega) (by omega) (by omega)).app (as := [(16, 120)]) (Gd.one (by omega) (by omega) (by omega) (by omega))
    walk_at "ys"
    refine y_made [(16, 120), (1, 1)] g2 (by simp) ?_
    walk_at "ys"
    refine y_tellsP _ [(1, 1), (16, 120)] pl_two g2 ?_
    walk_at "ys"
  rintro _ rfl
  refine Y_cut (J := fun ρ => ∃ x y z : Int, ρ = [.dat (.sq (ns.map D.int)), .dat (.lst (kl ks)), .dat (.lst (kl (pl ks))), .cel .own (.lst [.int x, .int y, .int z]), .dat (.lst (kl os)), .dat (.int w), .dat (.tup [.int w, .int g]), .dat (.int far), .cel .own (.lst L), .dat (Ci ks), .dat (Ci ks.reverse), .dat (Ci os), .dat (Ci [(w, g)]), .dat (Ci []), .un, .un, .un, .un, .un]) ?_ ?_
  · walk_at "ys"
    refine y_cell ns 2 (by omega) fun q => ?_
    walk_at "ys"
    refine y_pool q fun x y z => ?_
    walk_at "ys"
    exact ⟨x, y, z, rfl⟩
  rintro _ ⟨x, y, z, rfl⟩
  refine Y_cut (J := fun ρ => ρ = [.dat (.sq (ns.map D.int)), .dat (.lst (kl ks)), .dat (.lst (kl (pl ks))), .cel .own (.lst [.int x, .int y, .int z]), .dat (.lst (kl os)), .dat (.int w), .dat (.tup [.int w, .int g]), .dat (.int far), .cel .own (.lst L), .dat (Ci ks), .dat (Ci ks.reverse), .dat (Ci os), .dat (Ci [(w, g)]), .dat (Ci []), .cel .own (.lst (kl ks)), .un, .un, .un, .un]) ?_ ?_
  · walk_at "ys"
  rintro _ rfl
  refine Y_cut (J := fun ρ => ∃ at_ x y z : Int, (0 ≤ at_ ∧ at_ ≤ ks.length) ∧ ρ = [.dat (.sq (ns.map D.int)), .dat (.lst (kl ks)), .dat (.lst (kl (pl ks))), .cel .own (.lst [.int x, .int y, .int z]), .dat (.lst (kl os)), .dat (.int w), .dat (.tup [.int w, .int g]), .dat (.int far), .cel .own (.lst L), .dat (Ci ks), .dat (Ci ks.reverse), .dat (Ci os), .dat (Ci [(w, g)]), .dat (Ci []), .cel .own (.lst (kl ks)), .dat (.int at_), .un, .un, .un]) ?_ ?_
  · walk_at "ys"
    rw [kl_len]
    refine y_take _ _ _ _ (by omega) (by omega) fun d x1 y1 z1 d1 d2 => ?_
    walk_at "ys"
    exact ⟨_, _, _, _, ⟨d1, by omega⟩, rfl⟩
  rintro _ ⟨at_, x, y, z, ⟨a1, a2⟩, rfl⟩
  refine Y_cut (J := fun ρ => ∃ v r x y z : Int, NoK v r ∧ ρ = [.dat (.sq (ns.map D.int)), .dat (.lst (kl ks)), .dat (.lst (kl (pl ks))), .cel .own (.lst [.int x, .int y, .int z]), .dat (.lst (kl os)), .dat (.int w), .dat (.tup [.int w, .int g]), .dat (.int far), .cel .own (.lst L), .dat (Ci ks), .dat (Ci ks.reverse), .dat (Ci os), .dat (Ci [(w, g)]), .dat (Ci []), .cel .own (.lst (kl ks)), .dat (.int at_), .dat (.tup [.int v, .int r]), .un, .un]) ?_ ?_
  · walk_at "ys"
    refine y_stranger _ _ _ fun v r x1 y1 z1 hno => ?_
    walk_at "ys"
    exact ⟨_, _, _, _, _, hno, rfl⟩
  rintro _ ⟨v, r, x, y, z, hno, rfl⟩
  refine Y_cut (J := fun ρ => ρ = [.dat (.sq (ns.map D.int)), .dat (.lst (kl ks)), .dat (.lst (kl (pl ks))), .cel .own (.lst [.int x, .int y, .int z]), .dat (.lst (kl os)), .dat (.int w), .dat (.tup [.int w, .int g]), .dat (.int far), .cel .own (.lst L), .dat (Ci ks), .dat (Ci ks.reverse), .dat (Ci os), .dat (Ci [(w, g)]), .dat (Ci []), .cel .own (.lst (kl (ks.take at_.toNat ++ [(v, r)] ++ ks.drop at_.toNat))), .dat (.int at_), .dat (.tup [.int v, .int r]), .un, .un]) ?_ ?_
  · walk_at "ys"
    refine ⟨_, fIns_kl (by omega) a1 (by omega), ?_⟩
    rfl
  rintro _ rfl
  have hbk : BadKs (ks.take at_.toNat ++ [(v, r)] ++ ks.drop at_.toNat) := .inr ⟨by simp; omega, ks.take at_.toNat, ks.drop at_.toNat, v, r, rfl, hg.sub fun k hk => List.mem_of_mem_take hk, hno⟩
  refine Y_cut (J := fun ρ => ρ = [.dat (.sq (ns.map D.int)), .dat (.lst (kl ks)), .dat (.lst (kl (pl ks))), .cel .own (.lst [.int x, .int y, .int z]), .dat (.lst (kl os)), .dat (.int w), .dat (.tup [.int w, .int g]), .dat (.int far), .cel .own (.lst L), .dat (Ci ks), .dat (Ci ks.reverse), .dat (Ci os), .dat (Ci [(w, g)]), .dat (Ci []), .cel .own (.lst (kl (ks.take at_.toNat ++ [(v, r)] ++ ks.drop at_.toNat))), .dat (.int at_), .dat (.tup [.int v, .int r]), .un, .un]) ?_ ?_
  · walk_at "ys"
    refine y_refuses _ hbk ?_
    walk_at "ys"
    refine y_single_refuses v r hno ?_
    walk_at "ys"
  rintro _ rfl
  refine Y_cut (J := fun ρ => ρ = [.dat (.sq (ns.map D.int)), .dat (.lst (kl ks)), .dat (.lst (kl (pl ks))), .cel .own (.lst [.int x, .int y, .int z]), .dat (.lst (kl os)), .dat (.int w), .dat (.tup [.int w, .int g]), .dat (.int far), .cel .own (.lst L), .dat (Ci ks), .dat (Ci ks.reverse), .dat (Ci os), .dat (Ci [(w, g)]), .dat (Ci []), .cel .own (.lst (kl ks)), .dat (.int at_), .dat (.tup [.int v, .int r]), .un, .un]) ?_ ?_
  · walk_at "ys"
    refine ⟨_, fPop_kl a1 (by simp; omega) (by simp; omega), ?_⟩
    rw [erase_ins (by omega)]
  rintro _ rfl
  refine Y_cut (J := fun ρ => ρ = [.dat (.sq (ns.map D.int)), .dat (.lst (kl ks)), .dat (.lst (kl (pl ks))), .cel .own (.lst [.int x, .int y, .int z]), .dat (.lst (kl os)), .dat (.int w), .dat (.tup [.int w, .int g]), .dat (.int far), .cel .own (.lst L), .dat (Ci ks), .dat (Ci ks.reverse), .dat (Ci os), .dat (Ci [(w, g)]), .dat (Ci []), .dat (.lst (kl ks)), .dat (.int at_), .dat (.tup [.int v, .int r]), .un, .un]) ?_ ?_
  · walk_at "ys"
    refine y_made ks hg (by omega) ?_
    walk_at "ys"
    refine y_tells ks hg ?_
    walk_at "ys"
  rintro _ rfl
  refine Y_cut (J := fun ρ => ∃ (x y z : Int) (s17 : Sl), canSet s17 = true ∧ ρ = [.dat (.sq (ns.map D.int)), .dat (.lst (kl ks)), .dat (.lst (kl (pl ks))), .cel .own (.lst [.int x, .int y, .int z]), .dat (.lst (kl os)), .dat (.int w), .dat (.tup [.int w, .int g]), .dat (.int far), .cel .own (.lst L), .dat (Ci ks), .dat (Ci ks.reverse), .dat (Ci os), .dat (Ci [(w, g)]), .dat (Ci []), .dat (.lst (kl ks)), .dat (.int at_), .dat (.tup [.int v, .int r]), s17, .un]) ?_ ?_
  · walk_at "ys"
    refine y_take _ _ _ _ (by omega) (by omega) fun d x1 y1 z1 d1 d2 => ?_
    walk_at "ys"
    split
    · refine ⟨by rw [kl_len]; omega, ?_⟩
      have hkn : Gd 16 120 (ks ++ [(w, g)]) := hg.app gk
      obtain ⟨R, eR, hR1, hR2, hR3⟩ := many_kl (ks := ks ++ [(w, g)]) (by simp; omega) (by simp)
      have hT : Gd 16 120 (R.take 300) := fun k hk => hkn k ((hR2 300 (by omega) k).mp hk)
      have eT : pl (R.take 300) = pl (ks ++ [(w, g)]) := pl_ext hT hkn (hR2 300 (by omega))
      rw [kl_snoc]
      refine ⟨_, eR, _, rfl, ?_⟩
      dsimp only
      rw [cut_300]
      refine y_made (R.take 300) hT (by rw [List.length_take]; omega) ?_
      walk_at "ys"
      refine ⟨by rw [kl_len]; omega, ?_⟩
      rw [kl_snoc]
      refine y_plainL _ hkn (by simp; omega) ?_
      walk_at "ys"
      refine y_tellsP (R.take 300) _ eT hT ?_
      walk_at "ys"
      rw [cut_301]
      refine y_refuses (R.take 301) (.inl ⟨by rw [List.length_take]; omega, by rw [List.length_take]; omega⟩) ?_
      walk_at "ys"
      exact ⟨_, _, _, _, rfl, rfl⟩
    · exact ⟨_, _, _, _, rfl, rfl⟩
  rintro _ ⟨x, y, z, s17, c17, rfl⟩
  walk_at "ys"
  refine y_tells ks hg ?_
  walk_at "ys"
  refine y_lets ks ks 120 hk1 (wl_pl hg _) ?_
  walk_at "ys"
  refine y_lets ks ks 0 hk1 (wl_pl hg _) ?_
  walk_at "ys"
  exact h _
theorem law_pure (ns : List Int) (_ : ns.length ≤ 63) : ∃ ρ, G_l_law [.dat (.sq (ns.map D.int))] = some (.ok (.d (.bl true)), ρ) := by
  obtain ⟨r, ρ, e, k⟩ := (y_law ns (K := fun r _ => r = .d (.bl true)) fun _ => rfl).mk
  subst k
  exact ⟨ρ, e⟩

end DP
namespace DP
open PySem PySem.Spec PyProof.Rows L2 PL
set_option maxHeartbeats 3900000
set_option exponentiation.threshold 20000
section
variable {P : Program} {w : World} {K : PySem.W.Frag} {mg : Str → Option Value} {base : Heap} {ad : Cl → Addr}
theorem ok_f_check_kind {f : Addr} {fd : FuncData} (F : L2.Fun K "check_kind" "check_kind" s_f_check_kind f fd)
    (T_BadKind : S_BadKind K mg (ad .BadKind))
    (g_MOST_RUN : ∃ u, mg "MOST_RUN" = some u ∧ RelV (.int 120) u)
    (g_MOST_SPELL : ∃ u, mg "MOST_SPELL" = some u ∧ RelV (.int 16) u) :
    FnOk P w K mg base (L2.CX P w) 1 f fd ["w", "g"] (spP K ad 2 G_f_check_kind) :=
  okX (N := N_f_check_kind) (s := B_f_check_kind) F sc_f_check_kind rfl rfl fun cdv A outer s H E hr =>
    (ss_1 (s_if (PW.pt (pp_woo (pp_tno (pp_tch2 op_le op_le o_le o_le (pp_c pe_int) (pp_v 0 (pv 0)) (pp_c (C8.pe_gc (by rfl) g_MOST_SPELL)))) (pw_or1 (pp_tno (pp_tch2 op_le op_le o_le o_le (pp_c pe_int) (pp_v 1 (pv 1)) (pp_c (C8.pe_gc (by rfl) g_MOST_RUN)))))))
    (ss_1 (s_raise1 .BadKind rfl (takes_of rfl rfl rfl rfl) PySem.F.excBase_ValueError T_BadKind.x T_BadKind.mg T_BadKind.kp (raises_own T_BadKind.b T_BadKind.t) rfl (pp_joined (.cons (pp_c pe_str) (.cons (pp_fmt (pp_v 0 (pv 0))) (.cons (pp_c pe_str) (.cons (pp_fmt (pp_v 1 (pv 1))) (.cons (pp_c pe_str) .nil))))))))
    ss_n))

theorem ok_f_check_kinds {f : Addr} {fd : FuncData} (F : L2.Fun K "check_kinds" "check_kinds" s_f_check_kinds f fd)
    (T_BadKind : S_BadKind K mg (ad .BadKind))
    (z_len : mg "len" = none)
    (g_MOST_KINDS : ∃ u, mg "MOST_KINDS" = some u ∧ RelV (.int 300) u)
    {f_f_check_kind : Addr} {fd_f_check_kind : FuncData} (O_f_check_kind : FnOk P w K mg base (L2.CX P w) 1 f_f_check_kind fd_f_check_kind ["w", "g"] (spP K ad 2 G_f_check_kind)) (m_f_check_kind : mg "check_kind" = some (.ref f_f_check_kind)) (k_f_check_kind : PySem.W.keepIn K (.ref f_f_check_kind) = true) (b_f_check_kind : Binds K fd_f_check_kind ["w", "g"] []) :
    FnOk P w K mg base (L2.CX P w) 2 f fd ["kinds"] (spP K ad 1 G_f_check_kinds) :=
  okX (N := N_f_check_kinds) (s := B_f_check_kinds) F sc_f_check_kinds rfl rfl fun cdv A outer s H E hr =>
    (ss_c (s_if (pp_tcmp op_gt o_gt (pp_B ob_len (c_lenA rfl) (by rfl) z_len (by decide +kernel) (pd_c (pp_v 0 (pv 0)) pd_n)) (pp_c (C8.pe_gc (by rfl) g_MOST_KINDS)) (nomark _))
    (ss_1 (s_raise1 .BadKind rfl (takes_of rfl rfl rfl rfl) PySem.F.excBase_ValueError T_BadKind.x T_BadKind.mg T_BadKind.kp (raises_own T_BadKind.b T_BadKind.t) rfl (pp_joined (.cons (pp_fmt (pp_B ob_len (c_lenA rfl) (by rfl) z_len (by decide +kernel) (pd_c (pp_v 0 (pv 0)) pd_n))) (.cons (pp_c pe_str) .nil)))))
    ss_n)
    (ss_1 (s_for (passes_of rfl) rfl (pi_l rfl (pp_v 0 (pv 0))) (g_t rfl rfl (gs_c (g_n (i := 1) sc_f_check_kinds.nd rfl (by first | exact Or.inl rfl | exact Or.inr rfl)) (gs_c (g_n (i := 2) sc_f_check_kinds.nd rfl (by first | exact Or.inl rfl | exact Or.inr rfl)) gs_n)))
    (ss_1 (s_ex (pp_callS O_f_check_kind (takes_of rfl rfl rfl rfl) (hr.mono (by decide)) (by rfl) m_f_check_kind k_f_check_kind b_f_check_kind (pq_c (pp_v 1 (pv 1)) (pq_c (pp_v 2 (pv 2)) pq_n))))))))

theorem ok_f_plain_list {f : Addr} {fd : FuncData} (F : L2.Fun K "plain_list" "plain_list" s_f_plain_list f fd)
    (z_min : mg "min" = none)
    (z_sorted : mg "sorted" = none) :
    FnOk P w K mg base CX0 1 f fd ["kinds"] (spP K ad 1 G_f_plain_list) :=
  ok0 (N := N_f_plain_list) (s := B_f_plain_list) F sc_f_plain_list rfl rfl fun cdv A outer s H E hr =>
    (ss_c (s_setC (i := 1) sc_f_plain_list.nd rfl (by first | exact Or.inl rfl | exact Or.inr rfl) pp_dnew)
    (ss_c (s_for PassesOwn.never rfl (pi_l rfl (pp_v 0 (pv 0))) (g_t rfl rfl (gs_c (g_n (i := 2) sc_f_plain_list.nd rfl (by first | exact Or.inl rfl | exact Or.inr rfl)) (gs_c (g_n (i := 3) sc_f_plain_list.nd rfl (by first | exact Or.inl rfl | exact Or.inr rfl)) gs_n)))
    (ss_1 (s_dput 1 (hu_of hr) (pv 1) (pp_v 2 (pv 2)) (pp_B ob_min2 (OW.c_min2 rfl) (by rfl) z_min (by decide +kernel) (pd_c (pp_v 3 (pv 3)) (pd_c (pp_dget2 1 (hu_of hr) (pv 1) (pp_v 2 (pv 2)) (pp_v 3 (pv 3)) ⟨by rfl, by rfl, by rfl, by rfl⟩) pd_n))))))
    (ss_c (s_setC (i := 4) sc_f_plain_list.nd rfl (by first | exact Or.inl rfl | exact Or.inr rfl) (pp_lst pd_n))
    (ss_c (s_for PassesOwn.never rfl (pi_l rfl (pp_sortDR 1 rfl (by rfl) z_sorted (pv 1))) (g_n (i := 2) sc_f_plain_list.nd rfl (by first | exact Or.inl rfl | exact Or.inr rfl))
    (ss_1 (s_if (PW.pt (pp_woo (look_b 4 (pp_tno (pp_ttr rfl (pp_v 4 (pv 4))))) (pw_or1 (pp_tcmp op_lt o_lt (pp_dget 1 (hu_of hr) (pv 1) (pp_v 2 (pv 2)) (fun _ _ => rfl)) (pp_ix rfl (look_v 4 (pp_ix rfl (pp_v 4 (pv 4)) (pp_1 un_neg o_neg (pp_c pe_int)) (fun _ _ => rfl))) (pp_c pe_int) (fun _ _ => rfl)) (nomark _)))))
    (ss_1 (s_ex (pp_bmL 4 rfl ol_app PySem.F.plainAttrs_list PySem.F.slot_list_append PySem.F.type_list_append mt_append (pv 4) (pd_c (pp_tup (pd_c (pp_v 2 (pv 2)) (pd_c (pp_dget 1 (hu_of hr) (pv 1) (pp_v 2 (pv 2)) (fun _ _ => rfl)) pd_n))) pd_n))))
    ss_n)))
    (ss_1 (s_ret (pp_rev rfl (pp_f 4 (pv 4)))))))))

theorem ok_Climate_init {f : Addr} {fd : FuncData} (F : L2.Fun K "__init__" "Climate.__init__" s_Climate_init f fd)
    (T_Climate : S_Climate K mg (ad .Climate))
    (z_tuple : mg "tuple" = none)
    {f_f_check_kinds : Addr} {fd_f_check_kinds : FuncData} (O_f_check_kinds : FnOk P w K mg base (L2.CX P w) 2 f_f_check_kinds fd_f_check_kinds ["kinds"] (spP K ad 1 G_f_check_kinds)) (m_f_check_kinds : mg "check_kinds" = some (.ref f_f_check_kinds)) (k_f_check_kinds : PySem.W.keepIn K (.ref f_f_check_kinds) = true) (b_f_check_kinds : Binds K fd_f_check_kinds ["kinds"] [])
    {f_f_plain_list : Addr} {fd_f_plain_list : FuncData} (O_f_plain_list : FnOk P w K mg base CX0 1 f_f_plain_list fd_f_plain_list ["kinds"] (spP K ad 1 G_f_plain_list)) (m_f_plain_list : mg "plain_list" = some (.ref f_f_plain_list)) (k_f_plain_list : PySem.W.keepIn K (.ref f_f_plain_list) = true) (b_f_plain_list : Binds K fd_f_plain_list ["kinds"] []) :
    FnOk P w K mg base (L2.CX P w) 3 f fd ["self", "kinds"] (spP K ad 2 G_Climate_init) :=
  okX (N := N_Climate_init) (s := B_Climate_init) F sc_Climate_init rfl rfl fun cdv A outer s H E hr =>
    (ss_c (s_ex (pp_callS O_f_check_kinds (takes_of rfl rfl rfl rfl) (hr.mono (by decide)) (by rfl) m_f_check_kinds k_f_check_kinds b_f_check_kinds (pq_c (pp_v 1 (pv 1)) pq_n)))
    (ss_1 (s_fld .Climate 0 rfl T_Climate.cl T_Climate.n_kinds (pv 0) (pp_T ob_tup (c_tupA rfl) (by rfl) z_tuple (by decide +kernel) (pd_c (pp_call O_f_plain_list (hr.mono (by decide)) (by rfl) m_f_plain_list k_f_plain_list b_f_plain_list .nil pass0 (pq_c (pp_v 1 (pv 1)) pq_n) .nil) pd_n)))))

theorem ok_Climate_dry {f : Addr} {fd : FuncData} (F : L2.Fun K "dry" "Climate.dry" s_Climate_dry f fd)
    (T_Climate : S_Climate K mg (ad .Climate))
    {f_Climate_init : Addr} {fd_Climate_init : FuncData} (O_Climate_init : FnOk P w K mg base (L2.CX P w) 3 f_Climate_init fd_Climate_init ["self", "kinds"] (spP K ad 2 G_Climate_init)) (b_Climate_init : Binds K fd_Climate_init ["self", "kinds"] []) (I_Climate : Mk K (ad .Climate) f_Climate_init) :
    FnOk P w K mg base (L2.CX P w) 5 f fd [] (spP K ad 0 G_Climate_dry) :=
  okX (N := N_Climate_dry) (s := B_Climate_dry) F sc_Climate_dry rfl rfl fun cdv A outer s H E hr =>
    (ss_1 (s_ret (pp_makeS .Climate I_Climate O_Climate_init (takes_of rfl rfl rfl rfl) (hr.mono (by decide)) (by rfl) T_Climate.mg b_Climate_init .nil (pq_c (pp_lst pd_n) pq_n) .nil)))

theorem ok_Climate_single {f : Addr} {fd : FuncData} (F : L2.Fun K "single" "Climate.single" s_Climate_single f fd)
    (T_Climate : S_Climate K mg (ad .Climate))
    {f_Climate_init : Addr} {fd_Climate_init : FuncData} (O_Climate_init : FnOk P w K mg base (L2.CX P w) 3 f_Climate_init fd_Climate_init ["self", "kinds"] (spP K ad 2 G_Climate_init)) (b_Climate_init : Binds K fd_Climate_init ["self", "kinds"] []) (I_Climate : Mk K (ad .Climate) f_Climate_init) :
    FnOk P w K mg base (L2.CX P w) 5 f fd ["cls", "w", "g"] (spP K ad 3 G_Climate_single) :=
  okX (N := N_Climate_single) (s := B_Climate_single) F sc_Climate_single rfl rfl fun cdv A outer s H E hr =>
    (ss_1 (s_ret (pp_makeSL .Climate (pv 0) I_Climate O_Climate_init (takes_of rfl rfl rfl rfl) (hr.mono (by decide)) b_Climate_init (pq_c (pp_lst (pd_c (pp_tup (pd_c (pp_v 1 (pv 1)) (pd_c (pp_v 2 (pv 2)) pd_n))) pd_n)) pq_n))))

theorem ok_Climate_longest {f : Addr} {fd : FuncData} (F : L2.Fun K "longest" "Climate.longest" s_Climate_longest f fd)
    (T_Climate : S_Climate K mg (ad .Climate))
    (z_max : mg "max" = none) :
    FnOk P w K mg base CX0 1 f fd ["self", "run"] (spP K ad 2 G_Climate_longest) :=
  ok0 (N := N_Climate_longest) (s := B_Climate_longest) F sc_Climate_longest rfl rfl fun cdv A outer s H E hr =>
    (ss_1 (s_ret (pp_maxD rfl hr.units rfl (by rfl) z_max (pd_c (pp_lc (own := [("w", 2), ("g", 3)]) (by rfl) sc_Climate_longest.nd (pi_t rfl (pp_fld .Climate 0 rfl T_Climate.cl T_Climate.n_kinds (pp_v 0 (pv 0)))) (blkOk_by (N := N_Climate_longest) (sc := defScope s_Climate_longest) (by decide +kernel)) (fun _ _ _ _ _ => (g_t rfl rfl (gs_c (g_n (i := 2) sc_Climate_longest.nd rfl (by first | exact Or.inl rfl | exact Or.inr rfl)) (gs_c (g_n (i := 3) sc_Climate_longest.nd rfl (by first | exact Or.inl rfl | exact Or.inr rfl)) gs_n)))) (fun _ _ _ _ _ => (pts_1 (pp_tcmp op_le o_le (pp_v 3 (pv 3)) (pp_v 1 (pv 1)) (nomark _)))) (fun _ _ _ _ _ => (pp_v 2 (pv 2)))) pd_n) (pp_c pe_int))))

theorem ok_l_int {f : Addr} {fd : FuncData} (F : L2.Fun K "_law_int" "_law_int" s_l_int f fd)
    (z_bool : mg "bool" = none)
    (z_int : mg "int" = none)
    (z_isinstance : mg "isinstance" = none)
    (kit_NoneType_bool : PySem.W.kitOne K (.type "NoneType") (.type "bool") = some false)
    (kit_NoneType_int : PySem.W.kitOne K (.type "NoneType") (.type "int") = some false)
    (kit_int_bool : PySem.W.kitOne K (.type "int") (.type "bool") = some false)
    (kit_int_int : PySem.W.kitOne K (.type "int") (.type "int") = some true) :
    FnOk P w K mg base CX0 1 f fd ["x"] (spP K ad 1 G_l_int) :=
  ok0 (N := N_l_int) (s := B_l_int) F sc_l_int rfl rfl fun cdv A outer s H E hr =>
    (ss_1 (s_ret (pp_van (pp_isi rfl (.b kit_int_int (.b kit_NoneType_int .nil)) (.ty _) (by rfl) z_isinstance (pp_v 0 (pv 0)) (pe_bltn (v := .ty "int") (by rfl) z_int (by decide +kernel) rfl)) (pe_one (pp_vno (pp_isi rfl (.b kit_int_bool (.b kit_NoneType_bool .nil)) (.ty _) (by rfl) z_isinstance (pp_v 0 (pv 0)) (pe_bltn (v := .ty "bool") (by rfl) z_bool (by decide +kernel) rfl)))))))

theorem ok_l_longest {f : Addr} {fd : FuncData} (F : L2.Fun K "_law_longest" "_law_longest" s_l_longest f fd)
     :
    FnOk P w K mg base CX0 1 f fd ["kinds", "run"] (spP K ad 2 G_l_longest) :=
  ok0 (N := N_l_longest) (s := B_l_longest) F sc_l_longest rfl rfl fun cdv A outer s H E hr =>
    (ss_c (s_set (i := 2) sc_l_longest.nd rfl (by first | exact Or.inl rfl | exact Or.inr rfl) (pp_c pe_int))
    (ss_c (s_for PassesOwn.never rfl (pi_l rfl (pp_v 0 (pv 0))) (g_n (i := 3) sc_l_longest.nd rfl (by first | exact Or.inl rfl | exact Or.inr rfl))
    (ss_1 (s_if (PW.pt (pp_wan (pp_tcmp op_le o_le (pp_ix rfl (pp_v 3 (pv 3)) (pp_c pe_int) (fun _ _ => rfl)) (pp_v 1 (pv 1)) (nomark _)) (pw_and1 (pp_tcmp op_gt o_gt (pp_ix rfl (pp_v 3 (pv 3)) (pp_c pe_int) (fun _ _ => rfl)) (pp_v 2 (pv 2)) (nomark _)))))
    (ss_1 (s_set (i := 2) sc_l_longest.nd rfl (by first | exact Or.inl rfl | exact Or.inr rfl) (pp_ix rfl (pp_v 3 (pv 3)) (pp_c pe_int) (fun _ _ => rfl))))
    ss_n)))
    (ss_1 (s_ret (pp_v 2 (pv 2))))))

theorem ok_l_lets {f : Addr} {fd : FuncData} (F : L2.Fun K "_law_lets" "_law_lets" s_l_lets f fd)
    (T_Climate : S_Climate K mg (ad .Climate))
    {f_l_int : Addr} {fd_l_int : FuncData} (O_l_int : FnOk P w K mg base CX0 1 f_l_int fd_l_int ["x"] (spP K ad 1 G_l_int)) (m_l_int : mg "_law_int" = some (.ref f_l_int)) (k_l_int : PySem.W.keepIn K (.ref f_l_int) = true) (b_l_int : Binds K fd_l_int ["x"] [])
    {f_l_longest : Addr} {fd_l_longest : FuncData} (O_l_longest : FnOk P w K mg base CX0 1 f_l_longest fd_l_longest ["kinds", "run"] (spP K ad 2 G_l_longest)) (m_l_longest : mg "_law_longest" = some (.ref f_l_longest)) (k_l_longest : PySem.W.keepIn K (.ref f_l_longest) = true) (b_l_longest : Binds K fd_l_longest ["kinds", "run"] [])
    {f_Climate_longest : Addr} {fd_Climate_longest : FuncData} (O_Climate_longest : FnOk P w K mg base CX0 1 f_Climate_longest fd_Climate_longest ["self", "run"] (spP K ad 2 G_Climate_longest)) (b_Climate_longest : Binds K fd_Climate_longest ["self", "run"] []) (M_Climate_longest : Meth K (ad .Climate) "longest" f_Climate_longest) :
    FnOk P w K mg base CX0 2 f fd ["climate", "kinds", "run"] (spP K ad 3 G_l_lets) :=
  ok0 (N := N_l_lets) (s := B_l_lets) F sc_l_lets rfl rfl fun cdv A outer s H E hr =>
    (ss_c (s_set (i := 3) sc_l_lets.nd rfl (by first | exact Or.inl rfl | exact Or.inr rfl) (pp_meth .Climate (pp_v 0 (pv 0)) T_Climate.cl M_Climate_longest O_Climate_longest (hr.mono (by decide)) b_Climate_longest pass0 (pq_c (pp_v 2 (pv 2)) pq_n)))
    (ss_1 (s_ret (pp_van (pp_call O_l_int (hr.mono (by decide)) (by rfl) m_l_int k_l_int b_l_int .nil pass0 (pq_c (pp_v 3 (pv 3)) pq_n) .nil) (pe_one (pp_cmp (op_eqB hr.units) o_eq (pp_v 3 (pv 3)) (pp_call O_l_longest (hr.mono (by decide)) (by rfl) m_l_longest k_l_longest b_l_longest .nil pass0 (pq_c (pp_v 1 (pv 1)) (pq_c (pp_v 2 (pv 2)) pq_n)) .nil) (nomark _)))))))

theorem ok_Climate_least_run {f : Addr} {fd : FuncData} (F : L2.Fun K "least_run" "Climate.least_run" s_Climate_least_run f fd)
    (T_Climate : S_Climate K mg (ad .Climate))
    (z_min : mg "min" = none) :
    FnOk P w K mg base CX0 1 f fd ["self", "w"] (spP K ad 2 G_Climate_least_run) :=
  ok0 (N := N_Climate_least_run) (s := B_Climate_least_run) F sc_Climate_least_run rfl rfl fun cdv A outer s H E hr =>
    (ss_1 (s_ret (pp_bestN (c_minN rfl hr.units) rfl (by rfl) z_min (by decide +kernel) (by decide) (by decide) (pd_c (pp_lc (own := [("v", 2), ("g", 3)]) (by rfl) sc_Climate_least_run.nd (pi_t rfl (pp_fld .Climate 0 rfl T_Climate.cl T_Climate.n_kinds (pp_v 0 (pv 0)))) (blkOk_by (N := N_Climate_least_run) (sc := defScope s_Climate_least_run) (by decide +kernel)) (fun _ _ _ _ _ => (g_t rfl rfl (gs_c (g_n (i := 2) sc_Climate_least_run.nd rfl (by first | exact Or.inl rfl | exact Or.inr rfl)) (gs_c (g_n (i := 3) sc_Climate_least_run.nd rfl (by first | exact Or.inl rfl | exact Or.inr rfl)) gs_n)))) (fun _ _ _ _ _ => (pts_1 (pp_tcmp op_ge o_ge (pp_v 2 (pv 2)) (pp_v 1 (pv 1)) (nomark _)))) (fun _ _ _ _ _ => (pp_v 3 (pv 3)))) pd_n) pe_non)))

theorem ok_l_starts {f : Addr} {fd : FuncData} (F : L2.Fun K "_law_starts" "_law_starts" s_l_starts f fd)
    (T_Climate : S_Climate K mg (ad .Climate))
    (z_len : mg "len" = none)
    (z_min : mg "min" = none)
    {f_l_int : Addr} {fd_l_int : FuncData} (O_l_int : FnOk P w K mg base CX0 1 f_l_int fd_l_int ["x"] (spP K ad 1 G_l_int)) (m_l_int : mg "_law_int" = some (.ref f_l_int)) (k_l_int : PySem.W.keepIn K (.ref f_l_int) = true) (b_l_int : Binds K fd_l_int ["x"] [])
    {f_Climate_least_run : Addr} {fd_Climate_least_run : FuncData} (O_Climate_least_run : FnOk P w K mg base CX0 1 f_Climate_least_run fd_Climate_least_run ["self", "w"] (spP K ad 2 G_Climate_least_run)) (b_Climate_least_run : Binds K fd_Climate_least_run ["self", "w"] []) (M_Climate_least_run : Meth K (ad .Climate) "least_run" f_Climate_least_run) :
    FnOk P w K mg base CX0 2 f fd ["climate", "kinds", "w"] (spP K ad 3 G_l_starts) :=
  ok0 (N := N_l_starts) (s := B_l_starts) F sc_l_starts rfl rfl fun cdv A outer s H E hr =>
    (ss_c (s_setLc (i := 3) (own := [("kind", 5)]) (by rfl) sc_l_starts.nd rfl rfl (sw_true rfl rfl rfl (by decide +kernel)) (pi_l rfl (pp_v 1 (pv 1))) (blkOk_by (N := N_l_starts) (sc := defScope s_l_starts) (by decide +kernel)) (fun _ _ _ _ _ => (g_n (i := 5) sc_l_starts.nd rfl (by first | exact Or.inl rfl | exact Or.inr rfl))) (fun _ _ _ _ _ => (pts_1 (pp_tcmp op_ge o_ge (pp_ix rfl (pp_v 5 (pv 5)) (pp_c pe_int) (fun _ _ => rfl)) (pp_v 2 (pv 2)) (nomark _)))) (fun _ _ _ _ _ => (pp_ix rfl (pp_v 5 (pv 5)) (pp_c pe_int) (fun _ _ => rfl))))
    (ss_c (s_set (i := 4) sc_l_starts.nd rfl (by first | exact Or.inl rfl | exact Or.inr rfl) (pp_meth .Climate (pp_v 0 (pv 0)) T_Climate.cl M_Climate_least_run O_Climate_least_run (hr.mono (by decide)) b_Climate_least_run pass0 (pq_c (pp_v 2 (pv 2)) pq_n)))
    (ss_c (s_if (pp_tcmp (op_eqB hr.units) o_eq (pp_B ob_len (c_lenA rfl) (by rfl) z_len (by decide +kernel) (pd_c (pp_v 3 (pv 3)) pd_n)) (pp_c pe_int) (nomark _))
    (ss_1 (s_ret (pp_cmp op_isNN o_is (pp_v 4 (pv 4)) (pp_c pe_non) (nomark _))))
    ss_n)
    (ss_1 (s_ret (pp_van (pp_call O_l_int (hr.mono (by decide)) (by rfl) m_l_int k_l_int b_l_int .nil pass0 (pq_c (pp_v 4 (pv 4)) pq_n) .nil) (pe_one (pp_cmp (op_eqB hr.units) o_eq (pp_v 4 (pv 4)) (pp_B ob_minL (cr_min rfl) (by rfl) z_min (by decide +kernel) (pd_c (pp_v 3 (pv 3)) pd_n)) (nomark _)))))))))

theorem ok_Climate_iter {f : Addr} {fd : FuncData} (F : L2.Fun K "__iter__" "Climate.__iter__" s_Climate_iter f fd) (T_Climate : S_Climate K mg (ad .Climate)) (z_iter : mg "iter" = none) :
    OW.FnS P w K mg base 1 f fd ["self"] (spIt K (ad .Climate) "kinds") := by
  refine OW.okS F sc_Climate_iter (fun _ vs H Q E h => ?_) (fun cdv A outer s H vs Q E hr h => ?_)
  · obtain ⟨p, dx, t, fs, zs, rfl, _⟩ := h
    rfl
  · obtain ⟨p, dx, t, fs, zs, rfl, hp, hl, hT, q⟩ := h
    exact ⟨_, (pss_one (ps_ret (pe_callB OW.c_iterT (by rfl) z_iter (by decide +kernel) (pa_cons (pe_fld (pv 0) rfl) pa_nil)))), .ref p, rfl, p, _, dx, fs, .ref t, rfl, hp, T_Climate.cl, T_Climate.n_kinds, hl, t, zs, rfl, hT, q⟩

theorem ok_Climate_need {f : Addr} {fd : FuncData} (F : L2.Fun K "need" "Climate.need" s_Climate_need f fd)
    (T_Climate : S_Climate K mg (ad .Climate))
    (z_max : mg "max" = none) :
    FnOk P w K mg base CX0 1 f fd ["self"] (spP K ad 1 G_Climate_need) :=
  ok0 (N := N_Climate_need) (s := B_Climate_need) F sc_Climate_need rfl rfl fun cdv A outer s H E hr =>
    (ss_1 (s_ret (pp_maxD rfl hr.units rfl (by rfl) z_max (pd_c (pp_lc (own := [("w", 1), ("g", 2)]) (by rfl) sc_Climate_need.nd (pi_t rfl (pp_fld .Climate 0 rfl T_Climate.cl T_Climate.n_kinds (pp_v 0 (pv 0)))) (blkOk_by (N := N_Climate_need) (sc := defScope s_Climate_need) (by decide +kernel)) (fun _ _ _ _ _ => (g_t rfl rfl (gs_c (g_n (i := 1) sc_Climate_need.nd rfl (by first | exact Or.inl rfl | exact Or.inr rfl)) (gs_c (g_n (i := 2) sc_Climate_need.nd rfl (by first | exact Or.inl rfl | exact Or.inr rfl)) gs_n)))) (fun _ _ _ _ _ => pts_n) (fun _ _ _ _ _ => (pp_v 2 (pv 2)))) pd_n) (pp_c pe_int))))

theorem ok_Climate_peak {f : Addr} {fd : FuncData} (F : L2.Fun K "peak" "Climate.peak" s_Climate_peak f fd)
    (T_Climate : S_Climate K mg (ad .Climate))
    (z_max : mg "max" = none) :
    FnOk P w K mg base CX0 1 f fd ["self"] (spP K ad 1 G_Climate_peak) :=
  ok0 (N := N_Climate_peak) (s := B_Climate_peak) F sc_Climate_peak rfl rfl fun cdv A outer s H E hr =>
    (ss_1 (s_ret (pp_maxD rfl hr.units rfl (by rfl) z_max (pd_c (pp_lc (own := [("w", 1), ("g", 2)]) (by rfl) sc_Climate_peak.nd (pi_t rfl (pp_fld .Climate 0 rfl T_Climate.cl T_Climate.n_kinds (pp_v 0 (pv 0)))) (blkOk_by (N := N_Climate_peak) (sc := defScope s_Climate_peak) (by decide +kernel)) (fun _ _ _ _ _ => (g_t rfl rfl (gs_c (g_n (i := 1) sc_Climate_peak.nd rfl (by first | exact Or.inl rfl | exact Or.inr rfl)) (gs_c (g_n (i := 2) sc_Climate_peak.nd rfl (by first | exact Or.inl rfl | exact Or.inr rfl)) gs_n)))) (fun _ _ _ _ _ => pts_n) (fun _ _ _ _ _ => (pp_v 1 (pv 1)))) pd_n) (pp_c pe_int))))

theorem ok_l_pairs {f : Addr} {fd : FuncData} (F : L2.Fun K "_law_pairs" "_law_pairs" s_l_pairs f fd)
    (z_isinstance : mg "isinstance" = none)
    (z_len : mg "len" = none)
    (z_range : mg "range" = none)
    (z_tuple : mg "tuple" = none)
    (kit_tuple_tuple : PySem.W.kitOne K (.type "tuple") (.type "tuple") = some true)
    {f_l_int : Addr} {fd_l_int : FuncData} (O_l_int : FnOk P w K mg base CX0 1 f_l_int fd_l_int ["x"] (spP K ad 1 G_l_int)) (m_l_int : mg "_law_int" = some (.ref f_l_int)) (k_l_int : PySem.W.keepIn K (.ref f_l_int) = true) (b_l_int : Binds K fd_l_int ["x"] []) :
    FnOk P w K mg base CX0 2 f fd ["actual", "plain"] (spP K ad 2 G_l_pairs) :=
  ok0 (N := N_l_pairs) (s := B_l_pairs) F sc_l_pairs rfl rfl fun cdv A outer s H E hr =>
    (ss_c (s_if (pp_tcmp (op_neB hr.units) o_ne (pp_B ob_len (c_lenA rfl) (by rfl) z_len (by decide +kernel) (pd_c (pp_v 0 (pv 0)) pd_n)) (pp_B ob_len (c_lenA rfl) (by rfl) z_len (by decide +kernel) (pd_c (pp_v 1 (pv 1)) pd_n)) (nomark _))
    (ss_1 (s_ret (pp_c pe_bl)))
    ss_n)
    (ss_c (s_for PassesOwn.never rfl (pi_r1 (by rfl) z_range (pp_B ob_len (c_lenA rfl) (by rfl) z_len (by decide +kernel) (pd_c (pp_v 1 (pv 1)) pd_n))) (g_n (i := 2) sc_l_pairs.nd rfl (by first | exact Or.inl rfl | exact Or.inr rfl))
    (ss_c (s_set (i := 3) sc_l_pairs.nd rfl (by first | exact Or.inl rfl | exact Or.inr rfl) (pp_ix rfl (pp_v 0 (pv 0)) (pp_v 2 (pv 2)) (fun _ _ => rfl)))
    (ss_c (s_if (PW.pt (pp_woo (pp_tno (pp_tval (pp_isi rfl (.b kit_tuple_tuple .nil) (.ty _) (by rfl) z_isinstance (pp_v 3 (pv 3)) (pe_bltn (v := .ty "tuple") (by rfl) z_tuple (by decide +kernel) rfl)))) (pp_woo (pp_tcmp (op_neB hr.units) o_ne (pp_B ob_len (c_lenA rfl) (by rfl) z_len (by decide +kernel) (pd_c (pp_v 3 (pv 3)) pd_n)) (pp_c pe_int) (nomark _)) (pp_woo (pp_tno (pp_tval (pp_call O_l_int (hr.mono (by decide)) (by rfl) m_l_int k_l_int b_l_int .nil pass0 (pq_c (pp_ix rfl (pp_v 3 (pv 3)) (pp_c pe_int) (fun _ _ => rfl)) pq_n) .nil))) (pw_or1 (pp_tno (pp_tval (pp_call O_l_int (hr.mono (by decide)) (by rfl) m_l_int k_l_int b_l_int .nil pass0 (pq_c (pp_ix rfl (pp_v 3 (pv 3)) (pp_c pe_int) (fun _ _ => rfl)) pq_n) .nil))))))))
    (ss_1 (s_ret (pp_c pe_bl)))
    ss_n)
    (ss_1 (s_if (PW.pt (pp_woo (pp_tcmp (op_neB hr.units) o_ne (pp_ix rfl (pp_v 3 (pv 3)) (pp_c pe_int) (fun _ _ => rfl)) (pp_ix rfl (pp_ix rfl (pp_v 1 (pv 1)) (pp_v 2 (pv 2)) (fun _ _ => rfl)) (pp_c pe_int) (fun _ _ => rfl)) (nomark _)) (pw_or1 (pp_tcmp (op_neB hr.units) o_ne (pp_ix rfl (pp_v 3 (pv 3)) (pp_c pe_int) (fun _ _ => rfl)) (pp_ix rfl (pp_ix rfl (pp_v 1 (pv 1)) (pp_v 2 (pv 2)) (fun _ _ => rfl)) (pp_c pe_int) (fun _ _ => rfl)) (nomark _)))))
    (ss_1 (s_ret (pp_c pe_bl)))
    ss_n)))))
    (ss_1 (s_ret (pp_c pe_bl)))))

theorem ok_l_tells {f : Addr} {fd : FuncData} (F : L2.Fun K "_law_tells" "_law_tells" s_l_tells f fd)
    (T_Climate : S_Climate K mg (ad .Climate))
    (z_isinstance : mg "isinstance" = none)
    (z_list : mg "list" = none)
    (z_max : mg "max" = none)
    (z_tuple : mg "tuple" = none)
    (kit_Climate_Climate : PySem.W.kitOne K (.ref (ad .Climate)) (.ref (ad .Climate)) = some true)
    (kit_NoneType_Climate : PySem.W.kitOne K (.type "NoneType") (.ref (ad .Climate)) = some false)
    (kit_tuple_tuple : PySem.W.kitOne K (.type "tuple") (.type "tuple") = some true)
    {f_l_int : Addr} {fd_l_int : FuncData} (O_l_int : FnOk P w K mg base CX0 1 f_l_int fd_l_int ["x"] (spP K ad 1 G_l_int)) (m_l_int : mg "_law_int" = some (.ref f_l_int)) (k_l_int : PySem.W.keepIn K (.ref f_l_int) = true) (b_l_int : Binds K fd_l_int ["x"] [])
    {f_l_pairs : Addr} {fd_l_pairs : FuncData} (O_l_pairs : FnOk P w K mg base CX0 2 f_l_pairs fd_l_pairs ["actual", "plain"] (spP K ad 2 G_l_pairs)) (m_l_pairs : mg "_law_pairs" = some (.ref f_l_pairs)) (k_l_pairs : PySem.W.keepIn K (.ref f_l_pairs) = true) (b_l_pairs : Binds K fd_l_pairs ["actual", "plain"] [])
    {f_Climate_iter : Addr} {fd_Climate_iter : FuncData} (O_Climate_iter : OW.FnS P w K mg base 1 f_Climate_iter fd_Climate_iter ["self"] (spIt K (ad .Climate) "kinds")) (b_Climate_iter : Binds K fd_Climate_iter ["self"] []) (M_Climate_iter : Meth K (ad .Climate) "__iter__" f_Climate_iter)
    {f_Climate_need : Addr} {fd_Climate_need : FuncData} (O_Climate_need : FnOk P w K mg base CX0 1 f_Climate_need fd_Climate_need ["self"] (spP K ad 1 G_Climate_need)) (b_Climate_need : Binds K fd_Climate_need ["self"] []) {p_Climate_need : Addr} (P_Climate_need : PropOf K (ad .Climate) "need" p_Climate_need f_Climate_need)
    {f_Climate_peak : Addr} {fd_Climate_peak : FuncData} (O_Climate_peak : FnOk P w K mg base CX0 1 f_Climate_peak fd_Climate_peak ["self"] (spP K ad 1 G_Climate_peak)) (b_Climate_peak : Binds K fd_Climate_peak ["self"] []) {p_Climate_peak : Addr} (P_Climate_peak : PropOf K (ad .Climate) "peak" p_Climate_peak f_Climate_peak) :
    FnOk P w K mg base CX0 4 f fd ["climate", "plain"] (spP K ad 2 G_l_tells) :=
  ok0 (N := N_l_tells) (s := B_l_tells) F sc_l_tells rfl rfl fun cdv A outer s H E hr =>
    (ss_c (s_if (PW.pt (pp_woo (pp_tno (pp_tval (pp_isi rfl (.o kit_Climate_Climate T_Climate.ct (.b kit_NoneType_Climate .nil)) (.own _) (by rfl) z_isinstance (pp_v 0 (pv 0)) (C8.pe_gc (v := .ref (ad .Climate)) (by rfl) ⟨_, T_Climate.mg, rfl⟩)))) (pw_or1 (pp_tno (pp_tval (pp_isi rfl (.b kit_tuple_tuple .nil) (.ty _) (by rfl) z_isinstance (pp_fld .Climate 0 rfl T_Climate.cl T_Climate.n_kinds (pp_v 0 (pv 0))) (pe_bltn (v := .ty "tuple") (by rfl) z_tuple (by decide +kernel) rfl)))))))
    (ss_1 (s_ret (pp_c pe_bl)))
    ss_n)
    (ss_c (s_if (PW.pt (pp_woo (pp_tno (pp_tval (pp_call O_l_pairs (hr.mono (by decide)) (by rfl) m_l_pairs k_l_pairs b_l_pairs .nil pass0 (pq_c (pp_fld .Climate 0 rfl T_Climate.cl T_Climate.n_kinds (pp_v 0 (pv 0))) (pq_c (pp_v 1 (pv 1)) pq_n)) .nil))) (pw_or1 (pp_tno (pp_tval (pp_call O_l_pairs (hr.mono (by decide)) (by rfl) m_l_pairs k_l_pairs b_l_pairs .nil pass0 (pq_c (pp_Tc (ob_lstO .Climate 0) (OW.call_listT rfl M_Climate_iter O_Climate_iter (hr.mono (by decide)) b_Climate_iter T_Climate.n___len__ T_Climate.n___length_hint__) (by rfl) z_list (by decide +kernel) (pd_c (pp_v 0 (pv 0)) pd_n)) (pq_c (pp_v 1 (pv 1)) pq_n)) .nil))))))
    (ss_1 (s_ret (pp_c pe_bl)))
    ss_n)
    (ss_c (s_set (i := 2) sc_l_tells.nd rfl (by first | exact Or.inl rfl | exact Or.inr rfl) (pp_c pe_int))
    (ss_c (s_set (i := 3) sc_l_tells.nd rfl (by first | exact Or.inl rfl | exact Or.inr rfl) (pp_c pe_int))
    (ss_c (s_for PassesOwn.never rfl (pi_l rfl (pp_v 1 (pv 1))) (g_n (i := 4) sc_l_tells.nd rfl (by first | exact Or.inl rfl | exact Or.inr rfl))
    (ss_c (s_set (i := 2) sc_l_tells.nd rfl (by first | exact Or.inl rfl | exact Or.inr rfl) (pp_B ob_max2 (OW.c_max2 rfl) (by rfl) z_max (by decide +kernel) (pd_c (pp_v 2 (pv 2)) (pd_c (pp_ix rfl (pp_v 4 (pv 4)) (pp_c pe_int) (fun _ _ => rfl)) pd_n))))
    (ss_1 (s_set (i := 3) sc_l_tells.nd rfl (by first | exact Or.inl rfl | exact Or.inr rfl) (pp_B ob_max2 (OW.c_max2 rfl) (by rfl) z_max (by decide +kernel) (pd_c (pp_v 3 (pv 3)) (pd_c (pp_ix rfl (pp_v 4 (pv 4)) (pp_c pe_int) (fun _ _ => rfl)) pd_n)))))))
    (ss_c (s_if (PW.pt (pp_woo (pp_tno (pp_tval (pp_call O_l_int (hr.mono (by decide)) (by rfl) m_l_int k_l_int b_l_int .nil pass0 (pq_c (pp_prop .Climate (pp_v 0 (pv 0)) T_Climate.cl P_Climate_need O_Climate_need (hr.mono (by decide)) b_Climate_need pass0) pq_n) .nil))) (pw_or1 (pp_tno (pp_tval (pp_call O_l_int (hr.mono (by decide)) (by rfl) m_l_int k_l_int b_l_int .nil pass0 (pq_c (pp_prop .Climate (pp_v 0 (pv 0)) T_Climate.cl P_Climate_peak O_Climate_peak (hr.mono (by decide)) b_Climate_peak pass0) pq_n) .nil))))))
    (ss_1 (s_ret (pp_c pe_bl)))
    ss_n)
    (ss_1 (s_ret (pp_van (pp_cmp (op_eqB hr.units) o_eq (pp_prop .Climate (pp_v 0 (pv 0)) T_Climate.cl P_Climate_need O_Climate_need (hr.mono (by decide)) b_Climate_need pass0) (pp_v 2 (pv 2)) (nomark _)) (pe_one (pp_cmp (op_eqB hr.units) o_eq (pp_prop .Climate (pp_v 0 (pv 0)) T_Climate.cl P_Climate_peak O_Climate_peak (hr.mono (by decide)) b_Climate_peak pass0) (pp_v 3 (pv 3)) (nomark _))))))))))))

theorem ok_l_agrees {f : Addr} {fd : FuncData} (F : L2.Fun K "_law_agrees" "_law_agrees" s_l_agrees f fd)
    (z_range : mg "range" = none)
    {f_l_lets : Addr} {fd_l_lets : FuncData} (O_l_lets : FnOk P w K mg base CX0 2 f_l_lets fd_l_lets ["climate", "kinds", "run"] (spP K ad 3 G_l_lets)) (m_l_lets : mg "_law_lets" = some (.ref f_l_lets)) (k_l_lets : PySem.W.keepIn K (.ref f_l_lets) = true) (b_l_lets : Binds K fd_l_lets ["climate", "kinds", "run"] [])
    {f_l_starts : Addr} {fd_l_starts : FuncData} (O_l_starts : FnOk P w K mg base CX0 2 f_l_starts fd_l_starts ["climate", "kinds", "w"] (spP K ad 3 G_l_starts)) (m_l_starts : mg "_law_starts" = some (.ref f_l_starts)) (k_l_starts : PySem.W.keepIn K (.ref f_l_starts) = true) (b_l_starts : Binds K fd_l_starts ["climate", "kinds", "w"] [])
    {f_l_tells : Addr} {fd_l_tells : FuncData} (O_l_tells : FnOk P w K mg base CX0 4 f_l_tells fd_l_tells ["climate", "plain"] (spP K ad 2 G_l_tells)) (m_l_tells : mg "_law_tells" = some (.ref f_l_tells)) (k_l_tells : PySem.W.keepIn K (.ref f_l_tells) = true) (b_l_tells : Binds K fd_l_tells ["climate", "plain"] []) :
    FnOk P w K mg base CX0 5 f fd ["climate", "kinds", "plain"] (spP K ad 3 G_l_agrees) :=
  ok0 (N := N_l_agrees) (s := B_l_agrees) F sc_l_agrees rfl rfl fun cdv A outer s H E hr =>
    (ss_c (s_if (pp_tno (pp_tval (pp_call O_l_tells (hr.mono (by decide)) (by rfl) m_l_tells k_l_tells b_l_tells .nil pass0 (pq_c (pp_v 0 (pv 0)) (pq_c (pp_v 2 (pv 2)) pq_n)) .nil)))
    (ss_1 (s_ret (pp_c pe_bl)))
    ss_n)
    (ss_c (s_for PassesOwn.never rfl (pi_r1 (by rfl) z_range (pp_c pe_int)) (g_n (i := 3) sc_l_agrees.nd rfl (by first | exact Or.inl rfl | exact Or.inr rfl))
    (ss_1 (s_if (pp_tno (pp_tval (pp_call O_l_lets (hr.mono (by decide)) (by rfl) m_l_lets k_l_lets b_l_lets .nil pass0 (pq_c (pp_v 0 (pv 0)) (pq_c (pp_v 1 (pv 1)) (pq_c (pp_v 3 (pv 3)) pq_n))) .nil)))
    (ss_1 (s_ret (pp_c pe_bl)))
    ss_n)))
    (ss_c (s_for PassesOwn.never rfl (pi_r2 (by rfl) z_range (pp_1 un_neg o_neg (pp_c pe_int)) (pp_c pe_int)) (g_n (i := 4) sc_l_agrees.nd rfl (by first | exact Or.inl rfl | exact Or.inr rfl))
    (ss_1 (s_if (pp_tno (pp_tval (pp_call O_l_starts (hr.mono (by decide)) (by rfl) m_l_starts k_l_starts b_l_starts .nil pass0 (pq_c (pp_v 0 (pv 0)) (pq_c (pp_v 1 (pv 1)) (pq_c (pp_v 4 (pv 4)) pq_n))) .nil)))
    (ss_1 (s_ret (pp_c pe_bl)))
    ss_n)))
    (ss_1 (s_ret (pp_c pe_bl))))))

theorem ok_l_cell {f : Addr} {fd : FuncData} (F : L2.Fun K "_law_cell" "_law_cell" s_l_cell f fd)
    (z_len : mg "len" = none) :
    FnOk P w K mg base CX0 1 f fd ["script", "k"] (spP K ad 2 G_l_cell) :=
  ok0 (N := N_l_cell) (s := B_l_cell) F sc_l_cell rfl rfl fun cdv A outer s H E hr =>
    (ss_c (s_if (pp_tcmp op_lt o_lt (pp_v 1 (pv 1)) (pp_B ob_len (c_lenA rfl) (by rfl) z_len (by decide +kernel) (pd_c (pp_v 0 (pv 0)) pd_n)) (nomark _))
    (ss_1 (s_ret (pp_ix rfl (pp_v 0 (pv 0)) (pp_v 1 (pv 1)) (fun _ _ => rfl))))
    ss_n)
    (ss_1 (s_ret (pp_2 op_add o_add (pp_2 op_mulB o_mul (pp_c pe_int) (pp_v 1 (pv 1))) (pp_c pe_int)))))

theorem ok_Climate_eq {f : Addr} {fd : FuncData} (F : L2.Fun K "__eq__" "Climate.__eq__" s_Climate_eq f fd)
    (T_Climate : S_Climate K mg (ad .Climate))
    (z_isinstance : mg "isinstance" = none)
    (kit_Climate_Climate : PySem.W.kitOne K (.ref (ad .Climate)) (.ref (ad .Climate)) = some true)
    (kit_NoneType_Climate : PySem.W.kitOne K (.type "NoneType") (.ref (ad .Climate)) = some false) :
    FnOk P w K mg base CX0 1 f fd ["self", "other"] (spP K ad 2 G_Climate_eq) :=
  ok0 (N := N_Climate_eq) (s := B_Climate_eq) F sc_Climate_eq rfl rfl fun cdv A outer s H E hr =>
    (ss_1 (s_ret (pp_van (pp_isi rfl (.o kit_Climate_Climate T_Climate.ct (.b kit_NoneType_Climate .nil)) (.own _) (by rfl) z_isinstance (pp_v 1 (pv 1)) (C8.pe_gc (v := .ref (ad .Climate)) (by rfl) ⟨_, T_Climate.mg, rfl⟩)) (pe_one (pp_cmp (op_eqB hr.units) o_eq (pp_fld .Climate 0 rfl T_Climate.cl T_Climate.n_kinds (pp_v 0 (pv 0))) (pp_fld .Climate 0 rfl T_Climate.cl T_Climate.n_kinds (pp_v 1 (pv 1))) (nomark _))))))

theorem ok_l_equals {f : Addr} {fd : FuncData} (F : L2.Fun K "_law_equals" "_law_equals" s_l_equals f fd)
    (T_Climate : S_Climate K mg (ad .Climate))
    (z_bool : mg "bool" = none)
    (z_isinstance : mg "isinstance" = none)
    (kit_bool_bool : PySem.W.kitOne K (.type "bool") (.type "bool") = some true)
    {f_Climate_eq : Addr} {fd_Climate_eq : FuncData} (O_Climate_eq : FnOk P w K mg base CX0 1 f_Climate_eq fd_Climate_eq ["self", "other"] (spP K ad 2 G_Climate_eq)) (b_Climate_eq : Binds K fd_Climate_eq ["self", "other"] []) (M_Climate_eq : Meth K (ad .Climate) "__eq__" f_Climate_eq) :
    FnOk P w K mg base CX0 2 f fd ["one", "other", "due"] (spP K ad 3 G_l_equals) :=
  ok0 (N := N_l_equals) (s := B_l_equals) F sc_l_equals rfl rfl fun cdv A outer s H E hr =>
    (ss_c (s_set (i := 3) sc_l_equals.nd rfl (by first | exact Or.inl rfl | exact Or.inr rfl) (pp_owncmp .Climate rfl (fun _ _ => rfl) M_Climate_eq T_Climate.nf O_Climate_eq (hr.mono (by decide)) b_Climate_eq pass0 (pp_v 0 (pv 0)) (pp_v 1 (pv 1)) (nomark _)))
    (ss_c (s_set (i := 4) sc_l_equals.nd rfl (by first | exact Or.inl rfl | exact Or.inr rfl) (pp_owncmp .Climate rfl (fun _ _ => rfl) M_Climate_eq T_Climate.nf O_Climate_eq (hr.mono (by decide)) b_Climate_eq pass0 (pp_v 1 (pv 1)) (pp_v 0 (pv 0)) (nomark _)))
    (ss_1 (s_ret (pp_van (pp_isi rfl (.b kit_bool_bool .nil) (.ty _) (by rfl) z_isinstance (pp_v 3 (pv 3)) (pe_bltn (v := .ty "bool") (by rfl) z_bool (by decide +kernel) rfl)) (pp_van (pp_isi rfl (.b kit_bool_bool .nil) (.ty _) (by rfl) z_isinstance (pp_v 4 (pv 4)) (pe_bltn (v := .ty "bool") (by rfl) z_bool (by decide +kernel) rfl)) (pp_van (pp_cmp (op_eqB hr.units) o_eq (pp_v 3 (pv 3)) (pp_v 2 (pv 2)) (nomark _)) (pe_one (pp_cmp (op_eqB hr.units) o_eq (pp_v 4 (pv 4)) (pp_v 2 (pv 2)) (nomark _))))))))))

theorem ok_l_take {f : Addr} {fd : FuncData} (F : L2.Fun K "_law_take" "_law_take" s_l_take f fd)
    (z_int : mg "int" = none) :
    FnOk P w K mg base CX0 1 f fd ["pool", "size"] (spP K ad 2 G_l_take) :=
  ok0 (N := N_l_take) (s := B_l_take) F sc_l_take rfl rfl fun cdv A outer s H E hr =>
    (ss_c (s_setI 0 (pv 0) (pp_c pe_int) (pp_2 op_add o_add (look_v 0 (pp_ix rfl (pp_v 0 (pv 0)) (pp_c pe_int) (fun _ _ => rfl))) (pp_c pe_int)))
    (ss_c (s_if (pp_tcmp op_gt o_gt (look_v 0 (pp_ix rfl (pp_v 0 (pv 0)) (pp_c pe_int) (fun _ _ => rfl))) (pp_c pe_int) (nomark _))
    (ss_c (s_set (i := 2) sc_l_take.nd rfl (by first | exact Or.inl rfl | exact Or.inr rfl) (pp_2 op_mod o_mod (pp_T ob_int OW.c_int1 (by rfl) z_int (by decide +kernel) (pd_c (look_v 0 (pp_ix rfl (pp_v 0 (pv 0)) (pp_c pe_int) (fun _ _ => rfl))) pd_n)) (pp_v 1 (pv 1))))
    (ss_c (s_setI 0 (pv 0) (pp_c pe_int) (pp_2 op_divB o_div (look_v 0 (pp_ix rfl (pp_v 0 (pv 0)) (pp_c pe_int) (fun _ _ => rfl))) (pp_v 1 (pv 1))))
    (ss_1 (s_ret (pp_v 2 (pv 2))))))
    ss_n)
    (ss_c (s_set (i := 3) sc_l_take.nd rfl (by first | exact Or.inl rfl | exact Or.inr rfl) (pp_2 op_mod o_mod (pp_T ob_int OW.c_int1 (by rfl) z_int (by decide +kernel) (pd_c (pp_2 op_add o_add (pp_2 op_add o_add (look_v 0 (pp_ix rfl (pp_v 0 (pv 0)) (pp_c pe_int) (fun _ _ => rfl))) (pp_2 op_mulB o_mul (pp_c pe_int) (look_v 0 (pp_ix rfl (pp_v 0 (pv 0)) (pp_c pe_int) (fun _ _ => rfl))))) (pp_c pe_int)) pd_n)) (pp_c pe_int)))
    (ss_c (s_set (i := 3) sc_l_take.nd rfl (by first | exact Or.inl rfl | exact Or.inr rfl) (pp_2 op_mod o_mod (pp_T ob_int OW.c_int1 (by rfl) z_int (by decide +kernel) (pd_c (pp_2 op_add o_add (pp_2 op_add o_add (pp_2 op_mulB o_mul (pp_v 3 (pv 3)) (pp_v 3 (pv 3))) (pp_2 op_mulB o_mul (pp_c pe_int) (look_v 0 (pp_ix rfl (pp_v 0 (pv 0)) (pp_c pe_int) (fun _ _ => rfl))))) (pp_c pe_int)) pd_n)) (pp_c pe_int)))
    (ss_c (s_set (i := 3) sc_l_take.nd rfl (by first | exact Or.inl rfl | exact Or.inr rfl) (pp_2 op_mod o_mod (pp_T ob_int OW.c_int1 (by rfl) z_int (by decide +kernel) (pd_c (pp_2 op_add o_add (pp_2 op_add o_add (pp_2 op_mulB o_mul (pp_v 3 (pv 3)) (pp_v 3 (pv 3))) (pp_2 op_mulB o_mul (pp_c pe_int) (look_v 0 (pp_ix rfl (pp_v 0 (pv 0)) (pp_c pe_int) (fun _ _ => rfl))))) (pp_c pe_int)) pd_n)) (pp_c pe_int)))
    (ss_1 (s_ret (pp_2 op_mod o_mod (pp_T ob_int OW.c_int1 (by rfl) z_int (by decide +kernel) (pd_c (pp_2 op_divB o_div (pp_v 3 (pv 3)) (pp_c pe_int)) pd_n)) (pp_v 1 (pv 1))))))))))

theorem ok_l_stairs {f : Addr} {fd : FuncData} (F : L2.Fun K "_law_stairs" "_law_stairs" s_l_stairs f fd)
    (z_len : mg "len" = none)
    (z_range : mg "range" = none)
    {f_l_take : Addr} {fd_l_take : FuncData} (O_l_take : FnOk P w K mg base CX0 1 f_l_take fd_l_take ["pool", "size"] (spP K ad 2 G_l_take)) (m_l_take : mg "_law_take" = some (.ref f_l_take)) (k_l_take : PySem.W.keepIn K (.ref f_l_take) = true) (b_l_take : Binds K fd_l_take ["pool", "size"] []) :
    FnOk P w K mg base CX0 2 f fd ["pool"] (spP K ad 1 G_l_stairs) :=
  ok0 (N := N_l_stairs) (s := B_l_stairs) F sc_l_stairs rfl rfl fun cdv A outer s H E hr =>
    (ss_c (s_setC (i := 1) sc_l_stairs.nd rfl (by first | exact Or.inl rfl | exact Or.inr rfl) (pp_lst pd_n))
    (ss_c (s_set (i := 2) sc_l_stairs.nd rfl (by first | exact Or.inl rfl | exact Or.inr rfl) (pp_c pe_int))
    (ss_c (s_for PassesOwn.never rfl (pi_r2 (by rfl) z_range (pp_c pe_int) (pp_c pe_int)) (g_n (i := 3) sc_l_stairs.nd rfl (by first | exact Or.inl rfl | exact Or.inr rfl))
    (ss_1 (s_if (pp_tcmp op_gt o_gt (pp_call O_l_take (hr.mono (by decide)) (by rfl) m_l_take k_l_take b_l_take .nil pass0 (pq_k 0 (pv 0) (pq_c (pp_c pe_int) pq_n)) .nil) (pp_c pe_int) (nomark _))
    (ss_c (s_set (i := 2) sc_l_stairs.nd rfl (by first | exact Or.inl rfl | exact Or.inr rfl) (pp_2 op_add o_add (pp_2 op_add o_add (pp_v 2 (pv 2)) (pp_c pe_int)) (pp_call O_l_take (hr.mono (by decide)) (by rfl) m_l_take k_l_take b_l_take .nil pass0 (pq_k 0 (pv 0) (pq_c (pp_c pe_int) pq_n)) .nil)))
    (ss_1 (s_ex (pp_bmL 1 rfl ol_ins PySem.F.plainAttrs_list PySem.F.slot_list_insert PySem.F.type_list_insert OW.m_ins (pv 1) (pd_c (pp_call O_l_take (hr.mono (by decide)) (by rfl) m_l_take k_l_take b_l_take .nil pass0 (pq_k 0 (pv 0) (pq_c (pp_2 op_add o_add (look_v 1 (pp_B ob_len (c_lenA rfl) (by rfl) z_len (by decide +kernel) (pd_c (pp_v 1 (pv 1)) pd_n))) (pp_c pe_int)) pq_n)) .nil) (pd_c (pp_tup (pd_c (pp_v 3 (pv 3)) (pd_c (pp_v 2 (pv 2)) pd_n))) pd_n))))))
    ss_n)))
    (ss_1 (s_ret (pp_m 1 (pv 1)))))))

theorem ok_l_kinds {f : Addr} {fd : FuncData} (F : L2.Fun K "_law_kinds" "_law_kinds" s_l_kinds f fd)
    (z_len : mg "len" = none)
    (z_range : mg "range" = none)
    {f_l_stairs : Addr} {fd_l_stairs : FuncData} (O_l_stairs : FnOk P w K mg base CX0 2 f_l_stairs fd_l_stairs ["pool"] (spP K ad 1 G_l_stairs)) (m_l_stairs : mg "_law_stairs" = some (.ref f_l_stairs)) (k_l_stairs : PySem.W.keepIn K (.ref f_l_stairs) = true) (b_l_stairs : Binds K fd_l_stairs ["pool"] [])
    {f_l_take : Addr} {fd_l_take : FuncData} (O_l_take : FnOk P w K mg base CX0 1 f_l_take fd_l_take ["pool", "size"] (spP K ad 2 G_l_take)) (m_l_take : mg "_law_take" = some (.ref f_l_take)) (k_l_take : PySem.W.keepIn K (.ref f_l_take) = true) (b_l_take : Binds K fd_l_take ["pool", "size"] []) :
    FnOk P w K mg base CX0 3 f fd ["pool"] (spP K ad 1 G_l_kinds) :=
  ok0 (N := N_l_kinds) (s := B_l_kinds) F sc_l_kinds rfl rfl fun cdv A outer s H E hr =>
    (ss_c (s_set (i := 1) sc_l_kinds.nd rfl (by first | exact Or.inl rfl | exact Or.inr rfl) (pp_call O_l_take (hr.mono (by decide)) (by rfl) m_l_take k_l_take b_l_take .nil pass0 (pq_k 0 (pv 0) (pq_c (pp_c pe_int) pq_n)) .nil))
    (ss_c (s_if (pp_tcmp (op_eqB hr.units) o_eq (pp_v 1 (pv 1)) (pp_c pe_int) (nomark _))
    (ss_1 (s_ret (pp_call O_l_stairs (hr.mono (by decide)) (by rfl) m_l_stairs k_l_stairs b_l_stairs .nil pass0 (pq_k 0 (pv 0) pq_n) .nil)))
    ss_n)
    (ss_c (s_setC (i := 2) sc_l_kinds.nd rfl (by first | exact Or.inl rfl | exact Or.inr rfl) (pp_lst pd_n))
    (ss_c (s_for PassesOwn.never rfl (pi_r1 (by rfl) z_range (pp_call O_l_take (hr.mono (by decide)) (by rfl) m_l_take k_l_take b_l_take .nil pass0 (pq_k 0 (pv 0) (pq_c (pp_c pe_int) pq_n)) .nil)) (g_n (i := 3) sc_l_kinds.nd rfl (by first | exact Or.inl rfl | exact Or.inr rfl))
    (ss_1 (s_if (PW.pt (pp_wan (pp_tcmp op_gt o_gt (look_v 2 (pp_B ob_len (c_lenA rfl) (by rfl) z_len (by decide +kernel) (pd_c (pp_v 2 (pv 2)) pd_n))) (pp_c pe_int) (nomark _)) (pw_and1 (pp_tcmp (op_eqB hr.units) o_eq (pp_call O_l_take (hr.mono (by decide)) (by rfl) m_l_take k_l_take b_l_take .nil pass0 (pq_k 0 (pv 0) (pq_c (pp_c pe_int) pq_n)) .nil) (pp_c pe_int) (nomark _)))))
    (ss_1 (s_ex (pp_bmL 2 rfl ol_app PySem.F.plainAttrs_list PySem.F.slot_list_append PySem.F.type_list_append mt_append (pv 2) (pd_c (pp_ixL 2 rfl (pv 2) (pp_call O_l_take (hr.mono (by decide)) (by rfl) m_l_take k_l_take b_l_take .nil pass0 (pq_k 0 (pv 0) (pq_c (look_v 2 (pp_B ob_len (c_lenA rfl) (by rfl) z_len (by decide +kernel) (pd_c (pp_v 2 (pv 2)) pd_n))) pq_n)) .nil) (fun _ _ => rfl)) pd_n))))
    (ss_1 (s_if (pp_tcmp op_lt o_lt (pp_v 1 (pv 1)) (pp_c pe_int) (nomark _))
    (ss_c (s_set (i := 4) sc_l_kinds.nd rfl (by first | exact Or.inl rfl | exact Or.inr rfl) (pp_2 op_add o_add (pp_c pe_int) (pp_call O_l_take (hr.mono (by decide)) (by rfl) m_l_take k_l_take b_l_take .nil pass0 (pq_k 0 (pv 0) (pq_c (pp_c pe_int) pq_n)) .nil)))
    (ss_1 (s_ex (pp_bmL 2 rfl ol_app PySem.F.plainAttrs_list PySem.F.slot_list_append PySem.F.type_list_append mt_append (pv 2) (pd_c (pp_tup (pd_c (pp_v 4 (pv 4)) (pd_c (pp_2 op_add o_add (pp_c pe_int) (pp_call O_l_take (hr.mono (by decide)) (by rfl) m_l_take k_l_take b_l_take .nil pass0 (pq_k 0 (pv 0) (pq_c (pp_c pe_int) pq_n)) .nil)) pd_n))) pd_n)))))
    (ss_c (s_set (i := 4) sc_l_kinds.nd rfl (by first | exact Or.inl rfl | exact Or.inr rfl) (pp_2 op_add o_add (pp_c pe_int) (pp_call O_l_take (hr.mono (by decide)) (by rfl) m_l_take k_l_take b_l_take .nil pass0 (pq_k 0 (pv 0) (pq_c (pp_c pe_int) pq_n)) .nil)))
    (ss_1 (s_ex (pp_bmL 2 rfl ol_app PySem.F.plainAttrs_list PySem.F.slot_list_append PySem.F.type_list_append mt_append (pv 2) (pd_c (pp_tup (pd_c (pp_v 4 (pv 4)) (pd_c (pp_2 op_add o_add (pp_c pe_int) (pp_call O_l_take (hr.mono (by decide)) (by rfl) m_l_take k_l_take b_l_take .nil pass0 (pq_k 0 (pv 0) (pq_c (pp_c pe_int) pq_n)) .nil)) pd_n))) pd_n))))))))))
    (ss_1 (s_ret (pp_m 2 (pv 2))))))))

theorem ok_l_made {f : Addr} {fd : FuncData} (F : L2.Fun K "_law_made" "_law_made" s_l_made f fd)
    (T_BadKind : S_BadKind K mg (ad .BadKind))
    (T_BadNumber : S_BadNumber K mg (ad .BadNumber))
    (T_Climate : S_Climate K mg (ad .Climate))
    (T_DampError : S_DampError K mg (ad .DampError))
    (T_TooLarge : S_TooLarge K mg (ad .TooLarge))
    (xm_BadKind_BadKind : PySem.W.exmOne K (.ref (ad .BadKind)) (.ref (ad .BadKind)) = some true)
    (xm_BadNumber_BadKind : PySem.W.exmOne K (.ref (ad .BadNumber)) (.ref (ad .BadKind)) = some false)
    (xm_DampError_BadKind : PySem.W.exmOne K (.ref (ad .DampError)) (.ref (ad .BadKind)) = some false)
    (xm_TooLarge_BadKind : PySem.W.exmOne K (.ref (ad .TooLarge)) (.ref (ad .BadKind)) = some false)
    {f_Climate_init : Addr} {fd_Climate_init : FuncData} (O_Climate_init : FnOk P w K mg base (L2.CX P w) 3 f_Climate_init fd_Climate_init ["self", "kinds"] (spP K ad 2 G_Climate_init)) (b_Climate_init : Binds K fd_Climate_init ["self", "kinds"] []) (I_Climate : Mk K (ad .Climate) f_Climate_init) :
    FnOk P w K mg base CX0 5 f fd ["kinds"] (spP K ad 1 G_l_made) :=
  ok0 (N := N_l_made) (s := B_l_made) F sc_l_made rfl rfl fun cdv A outer s H E hr =>
    (ss_c (s_set (i := 1) sc_l_made.nd rfl (by first | exact Or.inl rfl | exact Or.inr rfl) (pp_c pe_non))
    (ss_c (s_tryO rfl rfl rfl ⟨rfl, by decide, (.inl T_BadKind.mg)⟩ takes0 (.cons xm_DampError_BadKind (.cons xm_BadKind_BadKind (.cons xm_BadNumber_BadKind (.cons xm_TooLarge_BadKind .nil))))
    (fun W pn xe tk po => (ss_1 (s_set (i := 1) sc_l_made.nd rfl (by first | exact Or.inl rfl | exact Or.inr rfl) (pp_makeS .Climate I_Climate O_Climate_init tk (hr.mono (by decide)) (by rfl) T_Climate.mg b_Climate_init .nil (pq_c (pp_v 0 (pv 0)) pq_n) .nil))))
    (fun a oe cls d pn hz hf => (ss_1 (s_set (i := 1) sc_l_made.nd rfl (by first | exact Or.inl rfl | exact Or.inr rfl) (pp_c pe_non)))))
    (ss_1 (s_ret (pp_v 1 (pv 1))))))

theorem ok_l_other {f : Addr} {fd : FuncData} (F : L2.Fun K "_law_other" "_law_other" s_l_other f fd)
    (z_len : mg "len" = none)
    (z_list : mg "list" = none)
    (z_min : mg "min" = none)
    {f_l_kinds : Addr} {fd_l_kinds : FuncData} (O_l_kinds : FnOk P w K mg base CX0 3 f_l_kinds fd_l_kinds ["pool"] (spP K ad 1 G_l_kinds)) (m_l_kinds : mg "_law_kinds" = some (.ref f_l_kinds)) (k_l_kinds : PySem.W.keepIn K (.ref f_l_kinds) = true) (b_l_kinds : Binds K fd_l_kinds ["pool"] [])
    {f_l_take : Addr} {fd_l_take : FuncData} (O_l_take : FnOk P w K mg base CX0 1 f_l_take fd_l_take ["pool", "size"] (spP K ad 2 G_l_take)) (m_l_take : mg "_law_take" = some (.ref f_l_take)) (k_l_take : PySem.W.keepIn K (.ref f_l_take) = true) (b_l_take : Binds K fd_l_take ["pool", "size"] []) :
    FnOk P w K mg base CX0 4 f fd ["pool", "kinds"] (spP K ad 2 G_l_other) :=
  ok0 (N := N_l_other) (s := B_l_other) F sc_l_other rfl rfl fun cdv A outer s H E hr =>
    (ss_c (s_set (i := 2) sc_l_other.nd rfl (by first | exact Or.inl rfl | exact Or.inr rfl) (pp_call O_l_take (hr.mono (by decide)) (by rfl) m_l_take k_l_take b_l_take .nil pass0 (pq_k 0 (pv 0) (pq_c (pp_c pe_int) pq_n)) .nil))
    (ss_c (s_if (PW.pt (pp_woo (pp_tcmp (op_eqB hr.units) o_eq (pp_B ob_len (c_lenA rfl) (by rfl) z_len (by decide +kernel) (pd_c (pp_v 1 (pv 1)) pd_n)) (pp_c pe_int) (nomark _)) (pw_or1 (pp_tcmp (op_eqB hr.units) o_eq (pp_v 2 (pv 2)) (pp_c pe_int) (nomark _)))))
    (ss_1 (s_ret (pp_call O_l_kinds (hr.mono (by decide)) (by rfl) m_l_kinds k_l_kinds b_l_kinds .nil pass0 (pq_k 0 (pv 0) pq_n) .nil)))
    ss_n)
    (ss_c (s_set (i := 3) sc_l_other.nd rfl (by first | exact Or.inl rfl | exact Or.inr rfl) (pp_call O_l_take (hr.mono (by decide)) (by rfl) m_l_take k_l_take b_l_take .nil pass0 (pq_k 0 (pv 0) (pq_c (pp_B ob_len (c_lenA rfl) (by rfl) z_len (by decide +kernel) (pd_c (pp_v 1 (pv 1)) pd_n)) pq_n)) .nil))
    (ss_c (s_setC (i := 4) sc_l_other.nd rfl (by first | exact Or.inl rfl | exact Or.inr rfl) (pp_Tc ob_lst (c_lstA rfl) (by rfl) z_list (by decide +kernel) (pd_c (pp_v 1 (pv 1)) pd_n)))
    (ss_c (s_if (pp_tcmp (op_eqB hr.units) o_eq (pp_v 2 (pv 2)) (pp_c pe_int) (nomark _))
    (ss_1 (s_ret (pp_2c op_cat o_cat (pp_sl rfl (pp_f 4 (pv 4)) (pp_ps (pp_v 3 (pv 3))) pp_pn) (pp_sl rfl (pp_f 4 (pv 4)) pp_pn (pp_ps (pp_v 3 (pv 3)))))))
    ss_n)
    (ss_c (s_if (pp_tcmp (op_eqB hr.units) o_eq (pp_v 2 (pv 2)) (pp_c pe_int) (nomark _))
    (ss_1 (s_ex (pp_bmL 4 rfl ol_popAt PySem.F.plainAttrs_list PySem.F.slot_list_pop PySem.F.type_list_pop mt_popAt (pv 4) (pd_c (pp_v 3 (pv 3)) pd_n))))
    (ss_1 (s_setI 4 (pv 4) (pp_v 3 (pv 3)) (pp_tup (pd_c (pp_ix rfl (pp_ix rfl (pp_v 1 (pv 1)) (pp_v 3 (pv 3)) (fun _ _ => rfl)) (pp_c pe_int) (fun _ _ => rfl)) (pd_c (pp_B ob_min2 (OW.c_min2 rfl) (by rfl) z_min (by decide +kernel) (pd_c (pp_c pe_int) (pd_c (pp_2 op_add o_add (pp_ix rfl (pp_ix rfl (pp_v 1 (pv 1)) (pp_v 3 (pv 3)) (fun _ _ => rfl)) (pp_c pe_int) (fun _ _ => rfl)) (pp_c pe_int)) pd_n))) pd_n))))))
    (ss_1 (s_ret (pp_m 4 (pv 4))))))))))

theorem ok_l_needless {f : Addr} {fd : FuncData} (F : L2.Fun K "_law_needless" "_law_needless" s_l_needless f fd)
     :
    FnOk P w K mg base CX0 1 f fd ["kind", "kinds"] (spP K ad 2 G_l_needless) :=
  ok0 (N := N_l_needless) (s := B_l_needless) F sc_l_needless rfl rfl fun cdv A outer s H E hr =>
    (ss_c (s_for PassesOwn.never rfl (pi_l rfl (pp_v 1 (pv 1))) (g_n (i := 2) sc_l_needless.nd rfl (by first | exact Or.inl rfl | exact Or.inr rfl))
    (ss_1 (s_if (PW.pt (pp_wan (pp_tcmp (op_neB hr.units) o_ne (pp_v 2 (pv 2)) (pp_v 0 (pv 0)) (nomark _)) (pp_wan (pp_tcmp op_ge o_ge (pp_ix rfl (pp_v 2 (pv 2)) (pp_c pe_int) (fun _ _ => rfl)) (pp_ix rfl (pp_v 0 (pv 0)) (pp_c pe_int) (fun _ _ => rfl)) (nomark _)) (pw_and1 (pp_tcmp op_le o_le (pp_ix rfl (pp_v 2 (pv 2)) (pp_c pe_int) (fun _ _ => rfl)) (pp_ix rfl (pp_v 0 (pv 0)) (pp_c pe_int) (fun _ _ => rfl)) (nomark _))))))
    (ss_1 (s_ret (pp_c pe_bl)))
    ss_n)))
    (ss_1 (s_ret (pp_c pe_bl))))

theorem ok_l_plain {f : Addr} {fd : FuncData} (F : L2.Fun K "_law_plain" "_law_plain" s_l_plain f fd)
    (z_sorted : mg "sorted" = none)
    {f_l_needless : Addr} {fd_l_needless : FuncData} (O_l_needless : FnOk P w K mg base CX0 1 f_l_needless fd_l_needless ["kind", "kinds"] (spP K ad 2 G_l_needless)) (m_l_needless : mg "_law_needless" = some (.ref f_l_needless)) (k_l_needless : PySem.W.keepIn K (.ref f_l_needless) = true) (b_l_needless : Binds K fd_l_needless ["kind", "kinds"] []) :
    FnOk P w K mg base CX0 2 f fd ["kinds"] (spP K ad 1 G_l_plain) :=
  ok0 (N := N_l_plain) (s := B_l_plain) F sc_l_plain rfl rfl fun cdv A outer s H E hr =>
    (ss_c (s_setC (i := 1) sc_l_plain.nd rfl (by first | exact Or.inl rfl | exact Or.inr rfl) (pp_lst pd_n))
    (ss_c (s_for PassesOwn.never rfl (pi_l rfl (pp_v 0 (pv 0))) (g_n (i := 2) sc_l_plain.nd rfl (by first | exact Or.inl rfl | exact Or.inr rfl))
    (ss_1 (s_if (PW.pt (pp_wan (look_b 1 (pp_tcmp (op_notInD hr.units) o_notInD (pp_v 2 (pv 2)) (pp_v 1 (pv 1)) (by rfl))) (pw_and1 (pp_tno (pp_tval (pp_call O_l_needless (hr.mono (by decide)) (by rfl) m_l_needless k_l_needless b_l_needless .nil pass0 (pq_c (pp_v 2 (pv 2)) (pq_c (pp_v 0 (pv 0)) pq_n)) .nil))))))
    (ss_1 (s_ex (pp_bmL 1 rfl ol_app PySem.F.plainAttrs_list PySem.F.slot_list_append PySem.F.type_list_append mt_append (pv 1) (pd_c (pp_v 2 (pv 2)) pd_n))))
    ss_n)))
    (ss_1 (s_ret (pp_Bc ob_srtP (cr_sortT (by decide)) (by rfl) z_sorted (by decide +kernel) (pd_c (pp_f 1 (pv 1)) pd_n))))))

theorem ok_l_pool {f : Addr} {fd : FuncData} (F : L2.Fun K "_law_pool" "_law_pool" s_l_pool f fd)
    (z_int : mg "int" = none) :
    FnOk P w K mg base CX0 1 f fd ["cell"] (spP K ad 1 G_l_pool) :=
  ok0 (N := N_l_pool) (s := B_l_pool) F sc_l_pool rfl rfl fun cdv A outer s H E hr =>
    (ss_c (s_if (pp_tcmp op_ge o_ge (pp_v 0 (pv 0)) (pp_2 op_pow o_pow (pp_c pe_int) (pp_c pe_int)) (nomark _))
    (ss_1 (s_ret (pp_lst (pd_c (pp_2 op_sub o_sub (pp_v 0 (pv 0)) (pp_2 op_pow o_pow (pp_c pe_int) (pp_c pe_int))) (pd_c (pp_2 op_mod o_mod (pp_T ob_int OW.c_int1 (by rfl) z_int (by decide +kernel) (pd_c (pp_v 0 (pv 0)) pd_n)) (pp_c pe_int)) (pd_c (pp_c pe_int) pd_n))))))
    ss_n)
    (ss_c (s_if (pp_tcmp op_lt o_lt (pp_v 0 (pv 0)) (pp_c pe_int) (nomark _))
    (ss_1 (s_ret (pp_lst (pd_c (pp_c pe_int) (pd_c (pp_2 op_mod o_mod (pp_T ob_int OW.c_int1 (by rfl) z_int (by decide +kernel) (pd_c (pp_2 op_sub o_sub (pp_c pe_int) (pp_2 op_mulB o_mul (pp_c pe_int) (pp_v 0 (pv 0)))) pd_n)) (pp_c pe_int)) (pd_c (pp_c pe_int) pd_n))))))
    ss_n)
    (ss_1 (s_ret (pp_lst (pd_c (pp_c pe_int) (pd_c (pp_2 op_mod o_mod (pp_T ob_int OW.c_int1 (by rfl) z_int (by decide +kernel) (pd_c (pp_2 op_mulB o_mul (pp_c pe_int) (pp_v 0 (pv 0))) pd_n)) (pp_c pe_int)) (pd_c (pp_c pe_int) pd_n))))))))

theorem ok_l_refuses {f : Addr} {fd : FuncData} (F : L2.Fun K "_law_refuses" "_law_refuses" s_l_refuses f fd)
    (T_BadKind : S_BadKind K mg (ad .BadKind))
    (T_BadNumber : S_BadNumber K mg (ad .BadNumber))
    (T_Climate : S_Climate K mg (ad .Climate))
    (T_DampError : S_DampError K mg (ad .DampError))
    (T_TooLarge : S_TooLarge K mg (ad .TooLarge))
    (z_ValueError : mg "ValueError" = none)
    (z_isinstance : mg "isinstance" = none)
    (z_list : mg "list" = none)
    (kit_BadKind_BadNumber : PySem.W.kitOne K (.ref (ad .BadKind)) (.ref (ad .BadNumber)) = some false)
    (kit_BadKind_DampError : PySem.W.kitOne K (.ref (ad .BadKind)) (.ref (ad .DampError)) = some true)
    (kit_BadKind_TooLarge : PySem.W.kitOne K (.ref (ad .BadKind)) (.ref (ad .TooLarge)) = some false)
    (kit_BadKind_ValueError : PySem.W.kitOne K (.ref (ad .BadKind)) (.type "ValueError") = some true)
    (xm_BadKind_BadKind : PySem.W.exmOne K (.ref (ad .BadKind)) (.ref (ad .BadKind)) = some true)
    (xm_BadNumber_BadKind : PySem.W.exmOne K (.ref (ad .BadNumber)) (.ref (ad .BadKind)) = some false)
    (xm_DampError_BadKind : PySem.W.exmOne K (.ref (ad .DampError)) (.ref (ad .BadKind)) = some false)
    (xm_TooLarge_BadKind : PySem.W.exmOne K (.ref (ad .TooLarge)) (.ref (ad .BadKind)) = some false)
    {f_Climate_init : Addr} {fd_Climate_init : FuncData} (O_Climate_init : FnOk P w K mg base (L2.CX P w) 3 f_Climate_init fd_Climate_init ["self", "kinds"] (spP K ad 2 G_Climate_init)) (b_Climate_init : Binds K fd_Climate_init ["self", "kinds"] []) (I_Climate : Mk K (ad .Climate) f_Climate_init) :
    FnOk P w K mg base CX0 5 f fd ["kinds"] (spP K ad 1 G_l_refuses) :=
  ok0 (N := N_l_refuses) (s := B_l_refuses) F sc_l_refuses rfl rfl fun cdv A outer s H E hr =>
    (ss_c (s_set (i := 1) sc_l_refuses.nd rfl (by first | exact Or.inl rfl | exact Or.inr rfl) (pp_Tc ob_lst (c_lstA rfl) (by rfl) z_list (by decide +kernel) (pd_c (pp_v 0 (pv 0)) pd_n)))
    (ss_c (s_set (i := 2) sc_l_refuses.nd rfl (by first | exact Or.inl rfl | exact Or.inr rfl) (pp_c pe_bl))
    (ss_c (s_set (i := 3) sc_l_refuses.nd rfl (by first | exact Or.inl rfl | exact Or.inr rfl) (pp_c pe_bl))
    (ss_c (s_tryA (i := 4) rfl rfl rfl sc_l_refuses.nd rfl rfl ⟨rfl, by decide, (.inl T_BadKind.mg)⟩ takes0 (.cons xm_DampError_BadKind (.cons xm_BadKind_BadKind (.cons xm_BadNumber_BadKind (.cons xm_TooLarge_BadKind .nil))))
    (fun W pn xe tk po => (ss_1 (s_ex (pp_makeS .Climate I_Climate O_Climate_init tk (hr.mono (by decide)) (by rfl) T_Climate.mg b_Climate_init .nil (pq_c (pp_v 0 (pv 0)) pq_n) .nil))))
    (fun a oe cls d pn hz hf => (ss_c (s_set (i := 2) sc_l_refuses.nd rfl (by first | exact Or.inl rfl | exact Or.inr rfl) (pp_c pe_bl))
    (ss_c (s_set (i := 3) sc_l_refuses.nd rfl (by first | exact Or.inl rfl | exact Or.inr rfl) (pp_van (pp_isE 4 rfl hz hf (.o kit_BadKind_DampError T_BadKind.ex .nil) (fun _ h => ClsV.eq ((.own _)) h) (by rfl) z_isinstance (pv 4) (C8.pe_gc (v := .ref (ad .DampError)) (by rfl) ⟨_, T_DampError.mg, rfl⟩)) (pe_one (pp_isE 4 rfl hz hf (.o kit_BadKind_ValueError T_BadKind.ex .nil) (fun _ h => ClsV.eq ((.ty _)) h) (by rfl) z_isinstance (pv 4) (pe_bltn (v := .ty "ValueError") (by rfl) z_ValueError (by decide +kernel) rfl)))))
    (ss_1 (s_set (i := 3) sc_l_refuses.nd rfl (by first | exact Or.inl rfl | exact Or.inr rfl) (pp_van (pp_v 3 (pv 3)) (pp_van (pp_vno (pp_isE 4 rfl hz hf (.o kit_BadKind_TooLarge T_BadKind.ex .nil) (fun _ h => ClsV.eq ((.own _)) h) (by rfl) z_isinstance (pv 4) (C8.pe_gc (v := .ref (ad .TooLarge)) (by rfl) ⟨_, T_TooLarge.mg, rfl⟩))) (pe_one (pp_vno (pp_isE 4 rfl hz hf (.o kit_BadKind_BadNumber T_BadKind.ex .nil) (fun _ h => ClsV.eq ((.own _)) h) (by rfl) z_isinstance (pv 4) (C8.pe_gc (v := .ref (ad .BadNumber)) (by rfl) ⟨_, T_BadNumber.mg, rfl⟩))))))))))))
    (ss_1 (s_ret (pp_van (pp_v 2 (pv 2)) (pp_van (pp_v 3 (pv 3)) (pe_one (pp_cmp (op_eqB hr.units) o_eq (pp_v 0 (pv 0)) (pp_v 1 (pv 1)) (nomark _)))))))))))

theorem ok_l_single_refuses {f : Addr} {fd : FuncData} (F : L2.Fun K "_law_single_refuses" "_law_single_refuses" s_l_single_refuses f fd)
    (T_BadKind : S_BadKind K mg (ad .BadKind))
    (T_BadNumber : S_BadNumber K mg (ad .BadNumber))
    (T_Climate : S_Climate K mg (ad .Climate))
    (T_DampError : S_DampError K mg (ad .DampError))
    (T_TooLarge : S_TooLarge K mg (ad .TooLarge))
    (z_ValueError : mg "ValueError" = none)
    (z_isinstance : mg "isinstance" = none)
    (kit_BadKind_BadNumber : PySem.W.kitOne K (.ref (ad .BadKind)) (.ref (ad .BadNumber)) = some false)
    (kit_BadKind_DampError : PySem.W.kitOne K (.ref (ad .BadKind)) (.ref (ad .DampError)) = some true)
    (kit_BadKind_TooLarge : PySem.W.kitOne K (.ref (ad .BadKind)) (.ref (ad .TooLarge)) = some false)
    (kit_BadKind_ValueError : PySem.W.kitOne K (.ref (ad .BadKind)) (.type "ValueError") = some true)
    (xm_BadKind_BadKind : PySem.W.exmOne K (.ref (ad .BadKind)) (.ref (ad .BadKind)) = some true)
    (xm_BadNumber_BadKind : PySem.W.exmOne K (.ref (ad .BadNumber)) (.ref (ad .BadKind)) = some false)
    (xm_DampError_BadKind : PySem.W.exmOne K (.ref (ad .DampError)) (.ref (ad .BadKind)) = some false)
    (xm_TooLarge_BadKind : PySem.W.exmOne K (.ref (ad .TooLarge)) (.ref (ad .BadKind)) = some false)
    {f_Climate_single : Addr} {fd_Climate_single : FuncData} (O_Climate_single : FnOk P w K mg base (L2.CX P w) 5 f_Climate_single fd_Climate_single ["cls", "w", "g"] (spP K ad 3 G_Climate_single)) (b_Climate_single : Binds K fd_Climate_single ["cls", "w", "g"] []) {p_Climate_single : Addr} (CM_Climate_single : ClX.CMet K (ad .Climate) (.type "type") "single" p_Climate_single f_Climate_single) :
    FnOk P w K mg base CX0 6 f fd ["pair"] (spP K ad 1 G_l_single_refuses) :=
  ok0 (N := N_l_single_refuses) (s := B_l_single_refuses) F sc_l_single_refuses rfl rfl fun cdv A outer s H E hr =>
    (ss_c (s_set (i := 1) sc_l_single_refuses.nd rfl (by first | exact Or.inl rfl | exact Or.inr rfl) (pp_c pe_bl))
    (ss_c (s_set (i := 2) sc_l_single_refuses.nd rfl (by first | exact Or.inl rfl | exact Or.inr rfl) (pp_c pe_bl))
    (ss_c (s_tryA (i := 3) rfl rfl rfl sc_l_single_refuses.nd rfl rfl ⟨rfl, by decide, (.inl T_BadKind.mg)⟩ takes0 (.cons xm_DampError_BadKind (.cons xm_BadKind_BadKind (.cons xm_BadNumber_BadKind (.cons xm_TooLarge_BadKind .nil))))
    (fun W pn xe tk po => (ss_1 (s_ex (pp_cmS .Climate (C8.pe_gc (v := .ref (ad .Climate)) (by rfl) ⟨_, T_Climate.mg, rfl⟩) T_Climate.cr CM_Climate_single O_Climate_single tk (hr.mono (by decide)) b_Climate_single (pq_c (pp_ix rfl (pp_v 0 (pv 0)) (pp_c pe_int) (fun _ _ => rfl)) (pq_c (pp_ix rfl (pp_v 0 (pv 0)) (pp_c pe_int) (fun _ _ => rfl)) pq_n))))))
    (fun a oe cls d pn hz hf => (ss_c (s_set (i := 1) sc_l_single_refuses.nd rfl (by first | exact Or.inl rfl | exact Or.inr rfl) (pp_c pe_bl))
    (ss_c (s_set (i := 2) sc_l_single_refuses.nd rfl (by first | exact Or.inl rfl | exact Or.inr rfl) (pp_van (pp_isE 3 rfl hz hf (.o kit_BadKind_DampError T_BadKind.ex .nil) (fun _ h => ClsV.eq ((.own _)) h) (by rfl) z_isinstance (pv 3) (C8.pe_gc (v := .ref (ad .DampError)) (by rfl) ⟨_, T_DampError.mg, rfl⟩)) (pe_one (pp_isE 3 rfl hz hf (.o kit_BadKind_ValueError T_BadKind.ex .nil) (fun _ h => ClsV.eq ((.ty _)) h) (by rfl) z_isinstance (pv 3) (pe_bltn (v := .ty "ValueError") (by rfl) z_ValueError (by decide +kernel) rfl)))))
    (ss_1 (s_set (i := 2) sc_l_single_refuses.nd rfl (by first | exact Or.inl rfl | exact Or.inr rfl) (pp_van (pp_v 2 (pv 2)) (pp_van (pp_vno (pp_isE 3 rfl hz hf (.o kit_BadKind_TooLarge T_BadKind.ex .nil) (fun _ h => ClsV.eq ((.own _)) h) (by rfl) z_isinstance (pv 3) (C8.pe_gc (v := .ref (ad .TooLarge)) (by rfl) ⟨_, T_TooLarge.mg, rfl⟩))) (pe_one (pp_vno (pp_isE 3 rfl hz hf (.o kit_BadKind_BadNumber T_BadKind.ex .nil) (fun _ h => ClsV.eq ((.own _)) h) (by rfl) z_isinstance (pv 3) (C8.pe_gc (v := .ref (ad .BadNumber)) (by rfl) ⟨_, T_BadNumber.mg, rfl⟩))))))))))))
    (ss_1 (s_ret (pp_van (pp_v 1 (pv 1)) (pe_one (pp_v 2 (pv 2)))))))))

theorem ok_l_stranger {f : Addr} {fd : FuncData} (F : L2.Fun K "_law_stranger" "_law_stranger" s_l_stranger f fd)
    {f_l_take : Addr} {fd_l_take : FuncData} (O_l_take : FnOk P w K mg base CX0 1 f_l_take fd_l_take ["pool", "size"] (spP K ad 2 G_l_take)) (m_l_take : mg "_law_take" = some (.ref f_l_take)) (k_l_take : PySem.W.keepIn K (.ref f_l_take) = true) (b_l_take : Binds K fd_l_take ["pool", "size"] []) :
    FnOk P w K mg base CX0 2 f fd ["pool"] (spP K ad 1 G_l_stranger) :=
  ok0 (N := N_l_stranger) (s := B_l_stranger) F sc_l_stranger rfl rfl fun cdv A outer s H E hr =>
    (ss_c (s_set (i := 1) sc_l_stranger.nd rfl (by first | exact Or.inl rfl | exact Or.inr rfl) (pp_2 op_add o_add (pp_c pe_int) (pp_call O_l_take (hr.mono (by decide)) (by rfl) m_l_take k_l_take b_l_take .nil pass0 (pq_k 0 (pv 0) (pq_c (pp_c pe_int) pq_n)) .nil)))
    (ss_c (s_set (i := 2) sc_l_stranger.nd rfl (by first | exact Or.inl rfl | exact Or.inr rfl) (pp_2 op_add o_add (pp_c pe_int) (pp_call O_l_take (hr.mono (by decide)) (by rfl) m_l_take k_l_take b_l_take .nil pass0 (pq_k 0 (pv 0) (pq_c (pp_c pe_int) pq_n)) .nil)))
    (ss_c (s_set (i := 3) sc_l_stranger.nd rfl (by first | exact Or.inl rfl | exact Or.inr rfl) (pp_call O_l_take (hr.mono (by decide)) (by rfl) m_l_take k_l_take b_l_take .nil pass0 (pq_k 0 (pv 0) (pq_c (pp_c pe_int) pq_n)) .nil))
    (ss_c (s_if (pp_tcmp (op_eqB hr.units) o_eq (pp_v 3 (pv 3)) (pp_c pe_int) (nomark _))
    (ss_1 (s_set (i := 1) sc_l_stranger.nd rfl (by first | exact Or.inl rfl | exact Or.inr rfl) (pp_2 op_sub o_sub (pp_c pe_int) (pp_2 op_mulB o_mul (pp_call O_l_take (hr.mono (by decide)) (by rfl) m_l_take k_l_take b_l_take .nil pass0 (pq_k 0 (pv 0) (pq_c (pp_c pe_int) pq_n)) .nil) (pp_call O_l_take (hr.mono (by decide)) (by rfl) m_l_take k_l_take b_l_take .nil pass0 (pq_k 0 (pv 0) (pq_c (pp_c pe_int) pq_n)) .nil)))))
    (ss_1 (s_if (pp_tcmp (op_eqB hr.units) o_eq (pp_v 3 (pv 3)) (pp_c pe_int) (nomark _))
    (ss_1 (s_set (i := 1) sc_l_stranger.nd rfl (by first | exact Or.inl rfl | exact Or.inr rfl) (pp_2 op_add o_add (pp_c pe_int) (pp_2 op_mulB o_mul (pp_call O_l_take (hr.mono (by decide)) (by rfl) m_l_take k_l_take b_l_take .nil pass0 (pq_k 0 (pv 0) (pq_c (pp_c pe_int) pq_n)) .nil) (pp_call O_l_take (hr.mono (by decide)) (by rfl) m_l_take k_l_take b_l_take .nil pass0 (pq_k 0 (pv 0) (pq_c (pp_c pe_int) pq_n)) .nil)))))
    (ss_1 (s_if (pp_tcmp (op_eqB hr.units) o_eq (pp_v 3 (pv 3)) (pp_c pe_int) (nomark _))
    (ss_1 (s_set (i := 2) sc_l_stranger.nd rfl (by first | exact Or.inl rfl | exact Or.inr rfl) (pp_2 op_sub o_sub (pp_c pe_int) (pp_2 op_mulB o_mul (pp_call O_l_take (hr.mono (by decide)) (by rfl) m_l_take k_l_take b_l_take .nil pass0 (pq_k 0 (pv 0) (pq_c (pp_c pe_int) pq_n)) .nil) (pp_call O_l_take (hr.mono (by decide)) (by rfl) m_l_take k_l_take b_l_take .nil pass0 (pq_k 0 (pv 0) (pq_c (pp_c pe_int) pq_n)) .nil)))))
    (ss_1 (s_set (i := 2) sc_l_stranger.nd rfl (by first | exact Or.inl rfl | exact Or.inr rfl) (pp_2 op_add o_add (pp_c pe_int) (pp_2 op_mulB o_mul (pp_call O_l_take (hr.mono (by decide)) (by rfl) m_l_take k_l_take b_l_take .nil pass0 (pq_k 0 (pv 0) (pq_c (pp_c pe_int) pq_n)) .nil) (pp_call O_l_take (hr.mono (by decide)) (by rfl) m_l_take k_l_take b_l_take .nil pass0 (pq_k 0 (pv 0) (pq_c (pp_c pe_int) pq_n)) .nil))))))))))
    (ss_1 (s_ret (pp_tup (pd_c (pp_v 1 (pv 1)) (pd_c (pp_v 2 (pv 2)) pd_n)))))))))

theorem ok_l_law {f : Addr} {fd : FuncData} (F : L2.Fun K "law" "law" s_l_law f fd)
    (T_Climate : S_Climate K mg (ad .Climate))
    (z_len : mg "len" = none)
    (z_list : mg "list" = none)
    (z_range : mg "range" = none)
    {f_l_agrees : Addr} {fd_l_agrees : FuncData} (O_l_agrees : FnOk P w K mg base CX0 5 f_l_agrees fd_l_agrees ["climate", "kinds", "plain"] (spP K ad 3 G_l_agrees)) (m_l_agrees : mg "_law_agrees" = some (.ref f_l_agrees)) (k_l_agrees : PySem.W.keepIn K (.ref f_l_agrees) = true) (b_l_agrees : Binds K fd_l_agrees ["climate", "kinds", "plain"] [])
    {f_l_cell : Addr} {fd_l_cell : FuncData} (O_l_cell : FnOk P w K mg base CX0 1 f_l_cell fd_l_cell ["script", "k"] (spP K ad 2 G_l_cell)) (m_l_cell : mg "_law_cell" = some (.ref f_l_cell)) (k_l_cell : PySem.W.keepIn K (.ref f_l_cell) = true) (b_l_cell : Binds K fd_l_cell ["script", "k"] [])
    {f_l_equals : Addr} {fd_l_equals : FuncData} (O_l_equals : FnOk P w K mg base CX0 2 f_l_equals fd_l_equals ["one", "other", "due"] (spP K ad 3 G_l_equals)) (m_l_equals : mg "_law_equals" = some (.ref f_l_equals)) (k_l_equals : PySem.W.keepIn K (.ref f_l_equals) = true) (b_l_equals : Binds K fd_l_equals ["one", "other", "due"] [])
    {f_l_kinds : Addr} {fd_l_kinds : FuncData} (O_l_kinds : FnOk P w K mg base CX0 3 f_l_kinds fd_l_kinds ["pool"] (spP K ad 1 G_l_kinds)) (m_l_kinds : mg "_law_kinds" = some (.ref f_l_kinds)) (k_l_kinds : PySem.W.keepIn K (.ref f_l_kinds) = true) (b_l_kinds : Binds K fd_l_kinds ["pool"] [])
    {f_l_lets : Addr} {fd_l_lets : FuncData} (O_l_lets : FnOk P w K mg base CX0 2 f_l_lets fd_l_lets ["climate", "kinds", "run"] (spP K ad 3 G_l_lets)) (m_l_lets : mg "_law_lets" = some (.ref f_l_lets)) (k_l_lets : PySem.W.keepIn K (.ref f_l_lets) = true) (b_l_lets : Binds K fd_l_lets ["climate", "kinds", "run"] [])
    {f_l_made : Addr} {fd_l_made : FuncData} (O_l_made : FnOk P w K mg base CX0 5 f_l_made fd_l_made ["kinds"] (spP K ad 1 G_l_made)) (m_l_made : mg "_law_made" = some (.ref f_l_made)) (k_l_made : PySem.W.keepIn K (.ref f_l_made) = true) (b_l_made : Binds K fd_l_made ["kinds"] [])
    {f_l_other : Addr} {fd_l_other : FuncData} (O_l_other : FnOk P w K mg base CX0 4 f_l_other fd_l_other ["pool", "kinds"] (spP K ad 2 G_l_other)) (m_l_other : mg "_law_other" = some (.ref f_l_other)) (k_l_other : PySem.W.keepIn K (.ref f_l_other) = true) (b_l_other : Binds K fd_l_other ["pool", "kinds"] [])
    {f_l_plain : Addr} {fd_l_plain : FuncData} (O_l_plain : FnOk P w K mg base CX0 2 f_l_plain fd_l_plain ["kinds"] (spP K ad 1 G_l_plain)) (m_l_plain : mg "_law_plain" = some (.ref f_l_plain)) (k_l_plain : PySem.W.keepIn K (.ref f_l_plain) = true) (b_l_plain : Binds K fd_l_plain ["kinds"] [])
    {f_l_pool : Addr} {fd_l_pool : FuncData} (O_l_pool : FnOk P w K mg base CX0 1 f_l_pool fd_l_pool ["cell"] (spP K ad 1 G_l_pool)) (m_l_pool : mg "_law_pool" = some (.ref f_l_pool)) (k_l_pool : PySem.W.keepIn K (.ref f_l_pool) = true) (b_l_pool : Binds K fd_l_pool ["cell"] [])
    {f_l_refuses : Addr} {fd_l_refuses : FuncData} (O_l_refuses : FnOk P w K mg base CX0 5 f_l_refuses fd_l_refuses ["kinds"] (spP K ad 1 G_l_refuses)) (m_l_refuses : mg "_law_refuses" = some (.ref f_l_refuses)) (k_l_refuses : PySem.W.keepIn K (.ref f_l_refuses) = true) (b_l_refuses : Binds K fd_l_refuses ["kinds"] [])
    {f_l_single_refuses : Addr} {fd_l_single_refuses : FuncData} (O_l_single_refuses : FnOk P w K mg base CX0 6 f_l_single_refuses fd_l_single_refuses ["pair"] (spP K ad 1 G_l_single_refuses)) (m_l_single_refuses : mg "_law_single_refuses" = some (.ref f_l_single_refuses)) (k_l_single_refuses : PySem.W.keepIn K (.ref f_l_single_refuses) = true) (b_l_single_refuses : Binds K fd_l_single_refuses ["pair"] [])
    {f_l_starts : Addr} {fd_l_starts : FuncData} (O_l_starts : FnOk P w K mg base CX0 2 f_l_starts fd_l_starts ["climate", "kinds", "w"] (spP K ad 3 G_l_starts)) (m_l_starts : mg "_law_starts" = some (.ref f_l_starts)) (k_l_starts : PySem.W.keepIn K (.ref f_l_starts) = true) (b_l_starts : Binds K fd_l_starts ["climate", "kinds", "w"] [])
    {f_l_stranger : Addr} {fd_l_stranger : FuncData} (O_l_stranger : FnOk P w K mg base CX0 2 f_l_stranger fd_l_stranger ["pool"] (spP K ad 1 G_l_stranger)) (m_l_stranger : mg "_law_stranger" = some (.ref f_l_stranger)) (k_l_stranger : PySem.W.keepIn K (.ref f_l_stranger) = true) (b_l_stranger : Binds K fd_l_stranger ["pool"] [])
    {f_l_take : Addr} {fd_l_take : FuncData} (O_l_take : FnOk P w K mg base CX0 1 f_l_take fd_l_take ["pool", "size"] (spP K ad 2 G_l_take)) (m_l_take : mg "_law_take" = some (.ref f_l_take)) (k_l_take : PySem.W.keepIn K (.ref f_l_take) = true) (b_l_take : Binds K fd_l_take ["pool", "size"] [])
    {f_l_tells : Addr} {fd_l_tells : FuncData} (O_l_tells : FnOk P w K mg base CX0 4 f_l_tells fd_l_tells ["climate", "plain"] (spP K ad 2 G_l_tells)) (m_l_tells : mg "_law_tells" = some (.ref f_l_tells)) (k_l_tells : PySem.W.keepIn K (.ref f_l_tells) = true) (b_l_tells : Binds K fd_l_tells ["climate", "plain"] [])
    {f_Climate_dry : Addr} {fd_Climate_dry : FuncData} (O_Climate_dry : FnOk P w K mg base (L2.CX P w) 5 f_Climate_dry fd_Climate_dry [] (spP K ad 0 G_Climate_dry)) (b_Climate_dry : Binds K fd_Climate_dry [] []) {p_Climate_dry : Addr} (SM_Climate_dry : SMet K (ad .Climate) (.type "type") "dry" p_Climate_dry f_Climate_dry) (k_Climate_dry : PySem.W.keepIn K (.ref f_Climate_dry) = true)
    {f_Climate_single : Addr} {fd_Climate_single : FuncData} (O_Climate_single : FnOk P w K mg base (L2.CX P w) 5 f_Climate_single fd_Climate_single ["cls", "w", "g"] (spP K ad 3 G_Climate_single)) (b_Climate_single : Binds K fd_Climate_single ["cls", "w", "g"] []) {p_Climate_single : Addr} (CM_Climate_single : ClX.CMet K (ad .Climate) (.type "type") "single" p_Climate_single f_Climate_single) :
    FnOk P w K mg base CX0 7 f fd ["script"] (spP K ad 1 G_l_law) :=
  ok0 (N := N_l_law) (s := B_l_law) F sc_l_law rfl rfl fun cdv A outer s H E hr =>
    (ss_c (s_set (i := 1) sc_l_law.nd rfl (by first | exact Or.inl rfl | exact Or.inr rfl) (pp_callN O_l_kinds (hr.mono (by decide)) (by rfl) m_l_kinds k_l_kinds b_l_kinds .nil pass0 (pp_call O_l_pool (hr.mono (by decide)) (by rfl) m_l_pool k_l_pool b_l_pool .nil pass0 (pq_c (pp_call O_l_cell (hr.mono (by decide)) (by rfl) m_l_cell k_l_cell b_l_cell .nil pass0 (pq_c (pp_v 0 (pv 0)) (pq_c (pp_c pe_int) pq_n)) .nil) pq_n) .nil) pq_n .nil))
    (ss_c (s_set (i := 2) sc_l_law.nd rfl (by first | exact Or.inl rfl | exact Or.inr rfl) (pp_call O_l_plain (hr.mono (by decide)) (by rfl) m_l_plain k_l_plain b_l_plain .nil pass0 (pq_c (pp_v 1 (pv 1)) pq_n) .nil))
    (ss_c (s_setC (i := 3) sc_l_law.nd rfl (by first | exact Or.inl rfl | exact Or.inr rfl) (pp_call O_l_pool (hr.mono (by decide)) (by rfl) m_l_pool k_l_pool b_l_pool .nil pass0 (pq_c (pp_call O_l_cell (hr.mono (by decide)) (by rfl) m_l_cell k_l_cell b_l_cell .nil pass0 (pq_c (pp_v 0 (pv 0)) (pq_c (pp_c pe_int) pq_n)) .nil) pq_n) .nil))
    (ss_c (s_set (i := 4) sc_l_law.nd rfl (by first | exact Or.inl rfl | exact Or.inr rfl) (pp_call O_l_other (hr.mono (by decide)) (by rfl) m_l_other k_l_other b_l_other .nil pass0 (pq_k 3 (pv 3) (pq_c (pp_v 1 (pv 1)) pq_n)) .nil))
    (ss_c (s_set (i := 5) sc_l_law.nd rfl (by first | exact Or.inl rfl | exact Or.inr rfl) (pp_2 op_add o_add (pp_c pe_int) (pp_call O_l_take (hr.mono (by decide)) (by rfl) m_l_take k_l_take b_l_take .nil pass0 (pq_k 3 (pv 3) (pq_c (pp_c pe_int) pq_n)) .nil)))
    (ss_c (s_set (i := 6) sc_l_law.nd rfl (by first | exact Or.inl rfl | exact Or.inr rfl) (pp_tup (pd_c (pp_v 5 (pv 5)) (pd_c (pp_2 op_add o_add (pp_c pe_int) (pp_call O_l_take (hr.mono (by decide)) (by rfl) m_l_take k_l_take b_l_take .nil pass0 (pq_k 3 (pv 3) (pq_c (pp_c pe_int) pq_n)) .nil)) pd_n))))
    (ss_c (s_set (i := 7) sc_l_law.nd rfl (by first | exact Or.inl rfl | exact Or.inr rfl) (pp_call O_l_take (hr.mono (by decide)) (by rfl) m_l_take k_l_take b_l_take .nil pass0 (pq_k 3 (pv 3) (pq_c (pp_2 op_pow o_pow (pp_c pe_int) (pp_c pe_int)) pq_n)) .nil))
    (ss_c (s_setC (i := 8) sc_l_law.nd rfl (by first | exact Or.inl rfl | exact Or.inr rfl) (pp_Tc ob_lst (c_lstA rfl) (by rfl) z_list (by decide +kernel) (pd_c (pp_v 1 (pv 1)) pd_n)))
    (ss_c (s_set (i := 9) sc_l_law.nd rfl (by first | exact Or.inl rfl | exact Or.inr rfl) (look_v 8 (pp_call O_l_made (hr.mono (by decide)) (by rfl) m_l_made k_l_made b_l_made .nil pass0 (pq_c (pp_v 8 (pv 8)) pq_n) .nil)))
    (ss_c (s_if (PW.pt (pp_woo (look_b 8 (pp_tcmp (op_neB hr.units) o_ne (pp_v 8 (pv 8)) (pp_v 1 (pv 1)) (nomark _))) (pw_or1 (pp_tno (pp_tval (pp_call O_l_agrees (hr.mono (by decide)) (by rfl) m_l_agrees k_l_agrees b_l_agrees .nil pass0 (pq_c (pp_v 9 (pv 9)) (pq_c (pp_v 1 (pv 1)) (pq_c (pp_v 2 (pv 2)) pq_n))) .nil))))))
    (ss_1 (s_ret (pp_c pe_bl)))
    ss_n)
    (ss_c (s_ex (pp_bmL 8 rfl ol_app PySem.F.plainAttrs_list PySem.F.slot_list_append PySem.F.type_list_append mt_append (pv 8) (pd_c (pp_tup (pd_c (pp_c pe_int) (pd_c (pp_c pe_int) pd_n))) pd_n)))
    (ss_c (s_setI 8 (pv 8) (pp_c pe_int) (pp_tup (pd_c (pp_c pe_int) (pd_c (pp_c pe_int) pd_n))))
    (ss_c (s_set (i := 10) sc_l_law.nd rfl (by first | exact Or.inl rfl | exact Or.inr rfl) (pp_call O_l_made (hr.mono (by decide)) (by rfl) m_l_made k_l_made b_l_made .nil pass0 (pq_c (pp_lc (own := [("k", 18)]) (by rfl) sc_l_law.nd (pi_r1 (by rfl) z_range (pp_B ob_len (c_lenA rfl) (by rfl) z_len (by decide +kernel) (pd_c (pp_v 1 (pv 1)) pd_n))) (blkOk_by (N := N_l_law) (sc := defScope s_l_law) (by decide +kernel)) (fun _ _ _ _ _ => (g_n (i := 18) sc_l_law.nd rfl (by first | exact Or.inl rfl | exact Or.inr rfl))) (fun _ _ _ _ _ => pts_n) (fun _ _ _ _ _ => (pp_ix rfl (pp_v 1 (pv 1)) (pp_2 op_sub o_sub (pp_2 op_sub o_sub (pp_B ob_len (c_lenA rfl) (by rfl) z_len (by decide +kernel) (pd_c (pp_v 1 (pv 1)) pd_n)) (pp_c pe_int)) (pp_v 18 (pv 18))) (fun _ _ => rfl)))) pq_n) .nil))
    (ss_c (s_set (i := 11) sc_l_law.nd rfl (by first | exact Or.inl rfl | exact Or.inr rfl) (pp_call O_l_made (hr.mono (by decide)) (by rfl) m_l_made k_l_made b_l_made .nil pass0 (pq_c (pp_Tc ob_lst (c_lstA rfl) (by rfl) z_list (by decide +kernel) (pd_c (pp_v 4 (pv 4)) pd_n)) pq_n) .nil))
    (ss_c (s_if (PW.pt (pp_woo (pp_tno (pp_tval (pp_call O_l_tells (hr.mono (by decide)) (by rfl) m_l_tells k_l_tells b_l_tells .nil pass0 (pq_c (pp_v 9 (pv 9)) (pq_c (pp_v 2 (pv 2)) pq_n)) .nil))) (pp_woo (pp_tno (pp_tval (pp_call O_l_lets (hr.mono (by decide)) (by rfl) m_l_lets k_l_lets b_l_lets .nil pass0 (pq_c (pp_v 9 (pv 9)) (pq_c (pp_v 1 (pv 1)) (pq_c (pp_v 7 (pv 7)) pq_n))) .nil))) (pw_or1 (pp_tno (pp_tval (pp_call O_l_starts (hr.mono (by decide)) (by rfl) m_l_starts k_l_starts b_l_starts .nil pass0 (pq_c (pp_v 9 (pv 9)) (pq_c (pp_v 1 (pv 1)) (pq_c (pp_c pe_int) pq_n))) .nil)))))))
    (ss_1 (s_ret (pp_c pe_bl)))
    ss_n)
    (ss_c (s_if (PW.pt (pp_woo (pp_tno (pp_tval (pp_call O_l_equals (hr.mono (by decide)) (by rfl) m_l_equals k_l_equals b_l_equals .nil pass0 (pq_c (pp_v 9 (pv 9)) (pq_c (pp_v 10 (pv 10)) (pq_c (pp_c pe_bl) pq_n))) .nil))) (pw_or1 (pp_tno (pp_tval (pp_call O_l_equals (hr.mono (by decide)) (by rfl) m_l_equals k_l_equals b_l_equals .nil pass0 (pq_c (pp_v 9 (pv 9)) (pq_c (pp_v 11 (pv 11)) (pq_c (pp_cmp (op_eqB hr.units) o_eq (pp_v 2 (pv 2)) (pp_call O_l_plain (hr.mono (by decide)) (by rfl) m_l_plain k_l_plain b_l_plain .nil pass0 (pq_c (pp_v 4 (pv 4)) pq_n) .nil) (nomark _)) pq_n))) .nil))))))
    (ss_1 (s_ret (pp_c pe_bl)))
    ss_n)
    (ss_c (s_if (PW.pt (pp_woo (pp_tno (pp_tval (pp_call O_l_tells (hr.mono (by decide)) (by rfl) m_l_tells k_l_tells b_l_tells .nil pass0 (pq_c (pp_v 11 (pv 11)) (pq_c (pp_call O_l_plain (hr.mono (by decide)) (by rfl) m_l_plain k_l_plain b_l_plain .nil pass0 (pq_c (pp_v 4 (pv 4)) pq_n) .nil) pq_n)) .nil))) (pw_or1 (pp_tno (pp_tval (pp_call O_l_lets (hr.mono (by decide)) (by rfl) m_l_lets k_l_lets b_l_lets .nil pass0 (pq_c (pp_v 11 (pv 11)) (pq_c (pp_v 4 (pv 4)) (pq_c (pp_v 7 (pv 7)) pq_n))) .nil))))))
    (ss_1 (s_ret (pp_c pe_bl)))
    ss_n)
    (ss_c (s_set (i := 12) sc_l_law.nd rfl (by first | exact Or.inl rfl | exact Or.inr rfl) (pp_cm .Climate (C8.pe_gc (v := .ref (ad .Climate)) (by rfl) ⟨_, T_Climate.mg, rfl⟩) T_Climate.cr CM_Climate_single O_Climate_single (hr.mono (by decide)) b_Climate_single passL (pq_c (pp_ix rfl (pp_v 6 (pv 6)) (pp_c pe_int) (fun _ _ => rfl)) (pq_c (pp_ix rfl (pp_v 6 (pv 6)) (pp_c pe_int) (fun _ _ => rfl)) pq_n))))
    (ss_c (s_if (PW.pt (pp_woo (pp_tno (pp_tval (pp_call O_l_tells (hr.mono (by decide)) (by rfl) m_l_tells k_l_tells b_l_tells .nil pass0 (pq_c (pp_v 12 (pv 12)) (pq_c (pp_lst (pd_c (pp_v 6 (pv 6)) pd_n)) pq_n)) .nil))) (pp_woo (pp_tno (pp_tval (pp_call O_l_lets (hr.mono (by decide)) (by rfl) m_l_lets k_l_lets b_l_lets .nil pass0 (pq_c (pp_v 12 (pv 12)) (pq_c (pp_lst (pd_c (pp_v 6 (pv 6)) pd_n)) (pq_c (pp_ix rfl (pp_v 6 (pv 6)) (pp_c pe_int) (fun _ _ => rfl)) pq_n))) .nil))) (pw_or1 (pp_tno (pp_tval (pp_call O_l_lets (hr.mono (by decide)) (by rfl) m_l_lets k_l_lets b_l_lets .nil pass0 (pq_c (pp_v 12 (pv 12)) (pq_c (pp_lst (pd_c (pp_v 6 (pv 6)) pd_n)) (pq_c (pp_v 7 (pv 7)) pq_n))) .nil)))))))
    (ss_1 (s_ret (pp_c pe_bl)))
    ss_n)
    (ss_c (s_if (PW.pt (pp_woo (pp_tno (pp_tval (pp_call O_l_lets (hr.mono (by decide)) (by rfl) m_l_lets k_l_lets b_l_lets .nil pass0 (pq_c (pp_v 12 (pv 12)) (pq_c (pp_lst (pd_c (pp_v 6 (pv 6)) pd_n)) (pq_c (pp_2 op_sub o_sub (pp_ix rfl (pp_v 6 (pv 6)) (pp_c pe_int) (fun _ _ => rfl)) (pp_c pe_int)) pq_n))) .nil))) (pw_or1 (pp_tno (pp_tval (pp_call O_l_equals (hr.mono (by decide)) (by rfl) m_l_equals k_l_equals b_l_equals .nil pass0 (pq_c (pp_v 12 (pv 12)) (pq_c (pp_call O_l_made (hr.mono (by decide)) (by rfl) m_l_made k_l_made b_l_made .nil pass0 (pq_c (pp_lst (pd_c (pp_v 6 (pv 6)) (pd_c (pp_v 6 (pv 6)) pd_n))) pq_n) .nil) (pq_c (pp_c pe_bl) pq_n))) .nil))))))
    (ss_1 (s_ret (pp_c pe_bl)))
    ss_n)
    (ss_c (s_set (i := 13) sc_l_law.nd rfl (by first | exact Or.inl rfl | exact Or.inr rfl) (pp_sm0 .Climate (C8.pe_gc (v := .ref (ad .Climate)) (by rfl) ⟨_, T_Climate.mg, rfl⟩) T_Climate.cr SM_Climate_dry k_Climate_dry O_Climate_dry (hr.mono (by decide)) b_Climate_dry passL))
    (ss_c (s_if (PW.pt (pp_woo (pp_tno (pp_tval (pp_call O_l_tells (hr.mono (by decide)) (by rfl) m_l_tells k_l_tells b_l_tells .nil pass0 (pq_c (pp_v 13 (pv 13)) (pq_c (pp_lst pd_n) pq_n)) .nil))) (pp_woo (pp_tno (pp_tval (pp_call O_l_lets (hr.mono (by decide)) (by rfl) m_l_lets k_l_lets b_l_lets .nil pass0 (pq_c (pp_v 13 (pv 13)) (pq_c (pp_lst pd_n) (pq_c (pp_v 7 (pv 7)) pq_n))) .nil))) (pw_or1 (pp_tno (pp_tval (pp_call O_l_starts (hr.mono (by decide)) (by rfl) m_l_starts k_l_starts b_l_starts .nil pass0 (pq_c (pp_v 13 (pv 13)) (pq_c (pp_lst pd_n) (pq_c (pp_c pe_int) pq_n))) .nil)))))))
    (ss_1 (s_ret (pp_c pe_bl)))
    ss_n)
    (ss_c (s_if (pp_tno (pp_tval (pp_call O_l_tells (hr.mono (by decide)) (by rfl) m_l_tells k_l_tells b_l_tells .nil pass0 (pq_c (pp_call O_l_made (hr.mono (by decide)) (by rfl) m_l_made k_l_made b_l_made .nil pass0 (pq_c (pp_lst (pd_c (pp_tup (pd_c (pp_c pe_int) (pd_c (pp_c pe_int) pd_n))) (pd_c (pp_tup (pd_c (pp_c pe_int) (pd_c (pp_c pe_int) pd_n))) pd_n))) pq_n) .nil) (pq_c (pp_lst (pd_c (pp_tup (pd_c (pp_c pe_int) (pd_c (pp_c pe_int) pd_n))) (pd_c (pp_tup (pd_c (pp_c pe_int) (pd_c (pp_c pe_int) pd_n))) pd_n))) pq_n)) .nil)))
    (ss_1 (s_ret (pp_c pe_bl)))
    ss_n)
    (ss_c (s_setC (i := 3) sc_l_law.nd rfl (by first | exact Or.inl rfl | exact Or.inr rfl) (pp_call O_l_pool (hr.mono (by decide)) (by rfl) m_l_pool k_l_pool b_l_pool .nil pass0 (pq_c (pp_call O_l_cell (hr.mono (by decide)) (by rfl) m_l_cell k_l_cell b_l_cell .nil pass0 (pq_c (pp_v 0 (pv 0)) (pq_c (pp_c pe_int) pq_n)) .nil) pq_n) .nil))
    (ss_c (s_setC (i := 14) sc_l_law.nd rfl (by first | exact Or.inl rfl | exact Or.inr rfl) (pp_Tc ob_lst (c_lstA rfl) (by rfl) z_list (by decide +kernel) (pd_c (pp_v 1 (pv 1)) pd_n)))
    (ss_c (s_set (i := 15) sc_l_law.nd rfl (by first | exact Or.inl rfl | exact Or.inr rfl) (pp_call O_l_take (hr.mono (by decide)) (by rfl) m_l_take k_l_take b_l_take .nil pass0 (pq_k 3 (pv 3) (pq_c (pp_2 op_add o_add (pp_B ob_len (c_lenA rfl) (by rfl) z_len (by decide +kernel) (pd_c (pp_v 1 (pv 1)) pd_n)) (pp_c pe_int)) pq_n)) .nil))
    (ss_c (s_set (i := 16) sc_l_law.nd rfl (by first | exact Or.inl rfl | exact Or.inr rfl) (pp_call O_l_stranger (hr.mono (by decide)) (by rfl) m_l_stranger k_l_stranger b_l_stranger .nil pass0 (pq_k 3 (pv 3) pq_n) .nil))
    (ss_c (s_ex (pp_bmL 14 rfl ol_ins PySem.F.plainAttrs_list PySem.F.slot_list_insert PySem.F.type_list_insert OW.m_ins (pv 14) (pd_c (pp_v 15 (pv 15)) (pd_c (pp_v 16 (pv 16)) pd_n))))
    (ss_c (s_if (PW.pt (pp_woo (pp_tno (look_b 14 (pp_tval (pp_call O_l_refuses (hr.mono (by decide)) (by rfl) m_l_refuses k_l_refuses b_l_refuses .nil pass0 (pq_c (pp_v 14 (pv 14)) pq_n) .nil)))) (pw_or1 (pp_tno (pp_tval (pp_call O_l_single_refuses (hr.mono (by decide)) (by rfl) m_l_single_refuses k_l_single_refuses b_l_single_refuses .nil pass0 (pq_c (pp_v 16 (pv 16)) pq_n) .nil))))))
    (ss_1 (s_ret (pp_c pe_bl)))
    ss_n)
    (ss_c (s_ex (pp_bmL 14 rfl ol_popAt PySem.F.plainAttrs_list PySem.F.slot_list_pop PySem.F.type_list_pop mt_popAt (pv 14) (pd_c (pp_v 15 (pv 15)) pd_n)))
    (ss_c (s_if (pp_tno (pp_tval (pp_call O_l_tells (hr.mono (by decide)) (by rfl) m_l_tells k_l_tells b_l_tells .nil pass0 (pq_c (pp_call O_l_made (hr.mono (by decide)) (by rfl) m_l_made k_l_made b_l_made .nil pass0 (pq_c (pp_f 14 (pv 14)) pq_n) .nil) (pq_c (pp_v 2 (pv 2)) pq_n)) .nil)))
    (ss_1 (s_ret (pp_c pe_bl)))
    ss_n)
    (ss_c (s_if (pp_tcmp (op_eqB hr.units) o_eq (pp_call O_l_take (hr.mono (by decide)) (by rfl) m_l_take k_l_take b_l_take .nil pass0 (pq_k 3 (pv 3) (pq_c (pp_c pe_int) pq_n)) .nil) (pp_c pe_int) (nomark _))
    (ss_c (s_set (i := 17) sc_l_law.nd rfl (by first | exact Or.inl rfl | exact Or.inr rfl) (pp_2c op_rep o_rep (pp_2c op_cat o_cat (pp_f 14 (pv 14)) (pp_lst (pd_c (pp_v 6 (pv 6)) pd_n))) (pp_c pe_int)))
    (ss_1 (s_if (PW.pt (pp_woo (pp_tno (pp_tval (pp_call O_l_tells (hr.mono (by decide)) (by rfl) m_l_tells k_l_tells b_l_tells .nil pass0 (pq_c (pp_call O_l_made (hr.mono (by decide)) (by rfl) m_l_made k_l_made b_l_made .nil pass0 (pq_c (pp_sl rfl (pp_v 17 (pv 17)) pp_pn (pp_ps (pp_c pe_int))) pq_n) .nil) (pq_c (pp_call O_l_plain (hr.mono (by decide)) (by rfl) m_l_plain k_l_plain b_l_plain .nil pass0 (pq_c (pp_2c op_cat o_cat (pp_f 14 (pv 14)) (pp_lst (pd_c (pp_v 6 (pv 6)) pd_n))) pq_n) .nil) pq_n)) .nil))) (pw_or1 (pp_tno (pp_tval (pp_call O_l_refuses (hr.mono (by decide)) (by rfl) m_l_refuses k_l_refuses b_l_refuses .nil pass0 (pq_c (pp_sl rfl (pp_v 17 (pv 17)) pp_pn (pp_ps (pp_c pe_int))) pq_n) .nil))))))
    (ss_1 (s_ret (pp_c pe_bl)))
    ss_n)))
    ss_n)
    (ss_1 (s_ret (pp_van (pp_call O_l_tells (hr.mono (by decide)) (by rfl) m_l_tells k_l_tells b_l_tells .nil pass0 (pq_c (pp_v 9 (pv 9)) (pq_c (pp_v 2 (pv 2)) pq_n)) .nil) (pp_van (pp_call O_l_lets (hr.mono (by decide)) (by rfl) m_l_lets k_l_lets b_l_lets .nil pass0 (pq_c (pp_v 9 (pv 9)) (pq_c (pp_v 1 (pv 1)) (pq_c (pp_c pe_int) pq_n))) .nil) (pe_one (pp_call O_l_lets (hr.mono (by decide)) (by rfl) m_l_lets k_l_lets b_l_lets .nil pass0 (pq_c (pp_v 9 (pv 9)) (pq_c (pp_v 1 (pv 1)) (pq_c (pp_c pe_int) pq_n))) .nil))))))))))))))))))))))))))))))))))))))
end
end DP
section
set_option maxHeartbeats 3900000
namespace DP
open PySem PySem.Spec PyProof.Rows L2 PL
def adOf (C_BadKind : Addr) (C_BadNumber : Addr) (C_Climate : Addr) (C_DampError : Addr) (C_TooLarge : Addr) : Cl → Addr
  | .BadKind => C_BadKind
  | .BadNumber => C_BadNumber
  | .Climate => C_Climate
  | .DampError => C_DampError
  | .TooLarge => C_TooLarge
  | _ => 0
theorem all_mk {l : PySem.W.OpenLaw} {w : World} {K : PySem.W.Frag} {h : Heap} {mg : Str → Option Value} {fa : Addr} (X : K.In h) (G : h.Ns mainGlobals mg) (hfa : mg "law" = some (.ref fa))
    {C_BadKind : Addr}
    {C_BadNumber : Addr}
    {C_Climate : Addr}
    {C_DampError : Addr}
    {C_TooLarge : Addr}
    {tkg_MOST_KINDS : Tok}
    {tkg_MOST_RUN : Tok}
    {tkg_MOST_SPELL : Tok}
    {f_f_check_kind : Addr} {od_f_check_kind an_f_check_kind : Option Addr} {sl_f_check_kind : Array (Option Value)} {oc_f_check_kind kV_f_check_kind dc_f_check_kind pm_f_check_kind cd_f_check_kind ct_f_check_kind : Value}
    {f_f_check_kinds : Addr} {od_f_check_kinds an_f_check_kinds : Option Addr} {sl_f_check_kinds : Array (Option Value)} {oc_f_check_kinds kV_f_check_kinds dc_f_check_kinds pm_f_check_kinds cd_f_check_kinds ct_f_check_kinds : Value}
    {f_f_plain_list : Addr} {od_f_plain_list an_f_plain_list : Option Addr} {sl_f_plain_list : Array (Option Value)} {oc_f_plain_list kV_f_plain_list dc_f_plain_list pm_f_plain_list cd_f_plain_list ct_f_plain_list : Value}
    {f_Climate_init : Addr} {od_Climate_init an_Climate_init : Option Addr} {sl_Climate_init : Array (Option Value)} {oc_Climate_init kV_Climate_init dc_Climate_init pm_Climate_init cd_Climate_init ct_Climate_init : Value}
    {f_Climate_dry : Addr} {od_Climate_dry an_Climate_dry : Option Addr} {sl_Climate_dry : Array (Option Value)} {oc_Climate_dry kV_Climate_dry dc_Climate_dry pm_Climate_dry cd_Climate_dry ct_Climate_dry : Value}
    {p_Climate_dry : Addr} {rest_Climate_dry : List Value}
    {f_Climate_single : Addr} {od_Climate_single an_Climate_single : Option Addr} {sl_Climate_single : Array (Option Value)} {oc_Climate_single kV_Climate_single dc_Climate_single pm_Climate_single cd_Climate_single ct_Climate_single : Value}
    {p_Climate_single : Addr} {rest_Climate_single : List Value}
    {f_Climate_longest : Addr} {od_Climate_longest an_Climate_longest : Option Addr} {sl_Climate_longest : Array (Option Value)} {oc_Climate_longest kV_Climate_longest dc_Climate_longest pm_Climate_longest cd_Climate_longest ct_Climate_longest : Value}
    {f_l_int : Addr} {od_l_int an_l_int : Option Addr} {sl_l_int : Array (Option Value)} {oc_l_int kV_l_int dc_l_int pm_l_int cd_l_int ct_l_int : Value}
    {f_l_longest : Addr} {od_l_longest an_l_longest : Option Addr} {sl_l_longest : Array (Option Value)} {oc_l_longest kV_l_longest dc_l_longest pm_l_longest cd_l_longest ct_l_longest : Value}
    {f_l_lets : Addr} {od_l_lets an_l_lets : Option Addr} {sl_l_lets : Array (Option Value)} {oc_l_lets kV_l_lets dc_l_lets pm_l_lets cd_l_lets ct_l_lets : Value}
    {f_Climate_least_run : Addr} {od_Climate_least_run an_Climate_least_run : Option Addr} {sl_Climate_least_run : Array (Option Value)} {oc_Climate_least_run kV_Climate_least_run dc_Climate_least_run pm_Climate_least_run cd_Climate_least_run ct_Climate_least_run : Value}
    {f_l_starts : Addr} {od_l_starts an_l_starts : Option Addr} {sl_l_starts : Array (Option Value)} {oc_l_starts kV_l_starts dc_l_starts pm_l_starts cd_l_starts ct_l_starts : Value}
    {f_Climate_iter : Addr} {od_Climate_iter an_Climate_iter : Option Addr} {sl_Climate_iter : Array (Option Value)} {oc_Climate_iter kV_Climate_iter dc_Climate_iter pm_Climate_iter cd_Climate_iter ct_Climate_iter : Value}
    {f_Climate_need : Addr} {od_Climate_need an_Climate_need : Option Addr} {sl_Climate_need : Array (Option Value)} {oc_Climate_need kV_Climate_need dc_Climate_need pm_Climate_need cd_Climate_need ct_Climate_need : Value}
    {p_Climate_need : Addr} {rest_Climate_need : List Value}
    {f_Climate_peak : Addr} {od_Climate_peak an_Climate_peak : Option Addr} {sl_Climate_peak : Array (Option Value)} {oc_Climate_peak kV_Climate_peak dc_Climate_peak pm_Climate_peak cd_Climate_peak ct_Climate_peak : Value}
    {p_Climate_peak : Addr} {rest_Climate_peak : List Value}
    {f_l_pairs : Addr} {od_l_pairs an_l_pairs : Option Addr} {sl_l_pairs : Array (Option Value)} {oc_l_pairs kV_l_pairs dc_l_pairs pm_l_pairs cd_l_pairs ct_l_pairs : Value}
    {f_l_tells : Addr} {od_l_tells an_l_tells : Option Addr} {sl_l_tells : Array (Option Value)} {oc_l_tells kV_l_tells dc_l_tells pm_l_tells cd_l_tells ct_l_tells : Value}
    {f_l_agrees : Addr} {od_l_agrees an_l_agrees : Option Addr} {sl_l_agrees : Array (Option Value)} {oc_l_agrees kV_l_agrees dc_l_agrees pm_l_agrees cd_l_agrees ct_l_agrees : Value}
    {f_l_cell : Addr} {od_l_cell an_l_cell : Option Addr} {sl_l_cell : Array (Option Value)} {oc_l_cell kV_l_cell dc_l_cell pm_l_cell cd_l_cell ct_l_cell : Value}
    {f_Climate_eq : Addr} {od_Climate_eq an_Climate_eq : Option Addr} {sl_Climate_eq : Array (Option Value)} {oc_Climate_eq kV_Climate_eq dc_Climate_eq pm_Climate_eq cd_Climate_eq ct_Climate_eq : Value}
    {f_l_equals : Addr} {od_l_equals an_l_equals : Option Addr} {sl_l_equals : Array (Option Value)} {oc_l_equals kV_l_equals dc_l_equals pm_l_equals cd_l_equals ct_l_equals : Value}
    {f_l_take : Addr} {od_l_take an_l_take : Option Addr} {sl_l_take : Array (Option Value)} {oc_l_take kV_l_take dc_l_take pm_l_take cd_l_take ct_l_take : Value}
    {f_l_stairs : Addr} {od_l_stairs an_l_stairs : Option Addr} {sl_l_stairs : Array (Option Value)} {oc_l_stairs kV_l_stairs dc_l_stairs pm_l_stairs cd_l_stairs ct_l_stairs : Value}
    {f_l_kinds : Addr} {od_l_kinds an_l_kinds : Option Addr} {sl_l_kinds : Array (Option Value)} {oc_l_kinds kV_l_kinds dc_l_kinds pm_l_kinds cd_l_kinds ct_l_kinds : Value}
    {f_l_made : Addr} {od_l_made an_l_made : Option Addr} {sl_l_made : Array (Option Value)} {oc_l_made kV_l_made dc_l_made pm_l_made cd_l_made ct_l_made : Value}
    {f_l_other : Addr} {od_l_other an_l_other : Option Addr} {sl_l_other : Array (Option Value)} {oc_l_other kV_l_other dc_l_other pm_l_other cd_l_other ct_l_other : Value}
    {f_l_needless : Addr} {od_l_needless an_l_needless : Option Addr} {sl_l_needless : Array (Option Value)} {oc_l_needless kV_l_needless dc_l_needless pm_l_needless cd_l_needless ct_l_needless : Value}
    {f_l_plain : Addr} {od_l_plain an_l_plain : Option Addr} {sl_l_plain : Array (Option Value)} {oc_l_plain kV_l_plain dc_l_plain pm_l_plain cd_l_plain ct_l_plain : Value}
    {f_l_pool : Addr} {od_l_pool an_l_pool : Option Addr} {sl_l_pool : Array (Option Value)} {oc_l_pool kV_l_pool dc_l_pool pm_l_pool cd_l_pool ct_l_pool : Value}
    {f_l_refuses : Addr} {od_l_refuses an_l_refuses : Option Addr} {sl_l_refuses : Array (Option Value)} {oc_l_refuses kV_l_refuses dc_l_refuses pm_l_refuses cd_l_refuses ct_l_refuses : Value}
    {f_l_single_refuses : Addr} {od_l_single_refuses an_l_single_refuses : Option Addr} {sl_l_single_refuses : Array (Option Value)} {oc_l_single_refuses kV_l_single_refuses dc_l_single_refuses pm_l_single_refuses cd_l_single_refuses ct_l_single_refuses : Value}
    {f_l_stranger : Addr} {od_l_stranger an_l_stranger : Option Addr} {sl_l_stranger : Array (Option Value)} {oc_l_stranger kV_l_stranger dc_l_stranger pm_l_stranger cd_l_stranger ct_l_stranger : Value}
    {f_l_law : Addr} {od_l_law an_l_law : Option Addr} {sl_l_law : Array (Option Value)} {oc_l_law kV_l_law dc_l_law pm_l_law cd_l_law ct_l_law : Value}
    (a_BadKind : PySem.W.nsIn K mainGlobals "BadKind" = some (some (.ref C_BadKind)))
    (c_BadKind_x : PySem.W.excIn K C_BadKind [.type "ValueError", .type "Exception", .type "BaseException", .type "object"] "ValueError.__new__" = true)
    (c_BadKind_kp : PySem.W.keepIn K (.ref C_BadKind) = true)
    (c_BadKind_b : PySem.W.subIn K (.ref C_BadKind) (.type "BaseException") = some true)
    (c_BadKind_t : PySem.W.typeIn K (.ref C_BadKind) = some (.type "type"))
    (c_BadKind_i : PySem.W.isClsIn K C_BadKind = true)
    (c_BadKind_s : PySem.W.subIn K (.ref C_BadKind) (.ref C_BadKind) = some true)
    (c_BadKind_hg : PySem.W.findIn K (.ref C_BadKind) "__getattribute__" = some (some (.builtin "BaseException.__getattribute__")))
    (c_BadKind_hk : PySem.W.findIn K (.ref C_BadKind) "__getattr__" = some none)
    (c_BadKind_hd : PySem.W.hasDictIn K C_BadKind = true)
    (c_BadKind_ha : PySem.W.findIn K (.ref C_BadKind) "__class__" = some (some (.builtin "object.__class__")))
    (c_BadKind_hn : PySem.W.specialIn K (.builtin "object.__class__") "__get__" = some (some (.builtin "getset_descriptor.__get__")))
    (c_BadKind_ht : PySem.W.takesIn K (.builtin "object.__class__") = some true)
    (c_BadKind_hm : PySem.W.mroIn K C_BadKind (.type "object") = some true)
    (a_BadNumber : PySem.W.nsIn K mainGlobals "BadNumber" = some (some (.ref C_BadNumber)))
    (c_BadNumber_x : PySem.W.excIn K C_BadNumber [.type "ValueError", .type "Exception", .type "BaseException", .type "object"] "ValueError.__new__" = true)
    (c_BadNumber_kp : PySem.W.keepIn K (.ref C_BadNumber) = true)
    (c_BadNumber_b : PySem.W.subIn K (.ref C_BadNumber) (.type "BaseException") = some true)
    (c_BadNumber_t : PySem.W.typeIn K (.ref C_BadNumber) = some (.type "type"))
    (c_BadNumber_i : PySem.W.isClsIn K C_BadNumber = true)
    (c_BadNumber_s : PySem.W.subIn K (.ref C_BadNumber) (.ref C_BadNumber) = some true)
    (c_BadNumber_hg : PySem.W.findIn K (.ref C_BadNumber) "__getattribute__" = some (some (.builtin "BaseException.__getattribute__")))
    (c_BadNumber_hk : PySem.W.findIn K (.ref C_BadNumber) "__getattr__" = some none)
    (c_BadNumber_hd : PySem.W.hasDictIn K C_BadNumber = true)
    (c_BadNumber_ha : PySem.W.findIn K (.ref C_BadNumber) "__class__" = some (some (.builtin "object.__class__")))
    (c_BadNumber_hn : PySem.W.specialIn K (.builtin "object.__class__") "__get__" = some (some (.builtin "getset_descriptor.__get__")))
    (c_BadNumber_ht : PySem.W.takesIn K (.builtin "object.__class__") = some true)
    (c_BadNumber_hm : PySem.W.mroIn K C_BadNumber (.type "object") = some true)
    (a_Climate : PySem.W.nsIn K mainGlobals "Climate" = some (some (.ref C_Climate)))
    (c_Climate_pg : PySem.W.plainGet K C_Climate Str.empty = true)
    (c_Climate_hd : PySem.W.hasDictIn K C_Climate = true)
    (c_Climate_po : PySem.W.plainOver K C_Climate = true)
    (c_Climate_sa : PySem.W.findIn K (.ref C_Climate) "__setattr__" = some (some (.builtin "object.__setattr__")))
    (c_Climate_sf : PySem.W.selfFirst K C_Climate = true)
    (c_Climate_nf : PySem.W.notFirst K C_Climate (.ref C_Climate) = true)
    (c_Climate_ha : PySem.W.findIn K (.ref C_Climate) "__class__" = some (some (.builtin "object.__class__")))
    (c_Climate_hn : PySem.W.specialIn K (.builtin "object.__class__") "__get__" = some (some (.builtin "getset_descriptor.__get__")))
    (c_Climate_ht : PySem.W.takesIn K (.builtin "object.__class__") = some true)
    (c_Climate_hm : PySem.W.mroIn K C_Climate (.type "object") = some true)
    (c_Climate_kp : PySem.W.keepIn K (.ref C_Climate) = true)
    (c_Climate_mkk : PySem.W.makesIn K C_Climate = true)
    (c_Climate_rd : PySem.W.readsIn K C_Climate (.type "type") = true)
    (c_Climate_ga : PySem.W.specialIn K (.ref C_Climate) "__getattribute__" = some (some (.builtin "type.__getattribute__")))
    (c_Climate_n___len__ : PySem.W.findIn K (.ref C_Climate) "__len__" = some none)
    (c_Climate_n___length_hint__ : PySem.W.findIn K (.ref C_Climate) "__length_hint__" = some none)
    (c_Climate_n_kinds : PySem.W.findIn K (.ref C_Climate) "kinds" = some none)
    (a_DampError : PySem.W.nsIn K mainGlobals "DampError" = some (some (.ref C_DampError)))
    (c_DampError_x : PySem.W.excIn K C_DampError [.type "ValueError", .type "Exception", .type "BaseException", .type "object"] "ValueError.__new__" = true)
    (c_DampError_kp : PySem.W.keepIn K (.ref C_DampError) = true)
    (c_DampError_b : PySem.W.subIn K (.ref C_DampError) (.type "BaseException") = some true)
    (c_DampError_t : PySem.W.typeIn K (.ref C_DampError) = some (.type "type"))
    (c_DampError_i : PySem.W.isClsIn K C_DampError = true)
    (c_DampError_s : PySem.W.subIn K (.ref C_DampError) (.ref C_DampError) = some true)
    (c_DampError_hg : PySem.W.findIn K (.ref C_DampError) "__getattribute__" = some (some (.builtin "BaseException.__getattribute__")))
    (c_DampError_hk : PySem.W.findIn K (.ref C_DampError) "__getattr__" = some none)
    (c_DampError_hd : PySem.W.hasDictIn K C_DampError = true)
    (c_DampError_ha : PySem.W.findIn K (.ref C_DampError) "__class__" = some (some (.builtin "object.__class__")))
    (c_DampError_hn : PySem.W.specialIn K (.builtin "object.__class__") "__get__" = some (some (.builtin "getset_descriptor.__get__")))
    (c_DampError_ht : PySem.W.takesIn K (.builtin "object.__class__") = some true)
    (c_DampError_hm : PySem.W.mroIn K C_DampError (.type "object") = some true)
    (a_TooLarge : PySem.W.nsIn K mainGlobals "TooLarge" = some (some (.ref C_TooLarge)))
    (c_TooLarge_x : PySem.W.excIn K C_TooLarge [.type "ValueError", .type "Exception", .type "BaseException", .type "object"] "ValueError.__new__" = true)
    (c_TooLarge_kp : PySem.W.keepIn K (.ref C_TooLarge) = true)
    (c_TooLarge_b : PySem.W.subIn K (.ref C_TooLarge) (.type "BaseException") = some true)
    (c_TooLarge_t : PySem.W.typeIn K (.ref C_TooLarge) = some (.type "type"))
    (c_TooLarge_i : PySem.W.isClsIn K C_TooLarge = true)
    (c_TooLarge_s : PySem.W.subIn K (.ref C_TooLarge) (.ref C_TooLarge) = some true)
    (c_TooLarge_hg : PySem.W.findIn K (.ref C_TooLarge) "__getattribute__" = some (some (.builtin "BaseException.__getattribute__")))
    (c_TooLarge_hk : PySem.W.findIn K (.ref C_TooLarge) "__getattr__" = some none)
    (c_TooLarge_hd : PySem.W.hasDictIn K C_TooLarge = true)
    (c_TooLarge_ha : PySem.W.findIn K (.ref C_TooLarge) "__class__" = some (some (.builtin "object.__class__")))
    (c_TooLarge_hn : PySem.W.specialIn K (.builtin "object.__class__") "__get__" = some (some (.builtin "getset_descriptor.__get__")))
    (c_TooLarge_ht : PySem.W.takesIn K (.builtin "object.__class__") = some true)
    (c_TooLarge_hm : PySem.W.mroIn K C_TooLarge (.type "object") = some true)
    (kit_BadKind_BadNumber : PySem.W.kitOne K (.ref C_BadKind) (.ref C_BadNumber) = some false)
    (kit_BadKind_DampError : PySem.W.kitOne K (.ref C_BadKind) (.ref C_DampError) = some true)
    (kit_BadKind_TooLarge : PySem.W.kitOne K (.ref C_BadKind) (.ref C_TooLarge) = some false)
    (kit_BadKind_ValueError : PySem.W.kitOne K (.ref C_BadKind) (.type "ValueError") = some true)
    (kit_Climate_Climate : PySem.W.kitOne K (.ref C_Climate) (.ref C_Climate) = some true)
    (kit_NoneType_Climate : PySem.W.kitOne K (.type "NoneType") (.ref C_Climate) = some false)
    (kit_NoneType_bool : PySem.W.kitOne K (.type "NoneType") (.type "bool") = some false)
    (kit_NoneType_int : PySem.W.kitOne K (.type "NoneType") (.type "int") = some false)
    (kit_bool_bool : PySem.W.kitOne K (.type "bool") (.type "bool") = some true)
    (kit_int_bool : PySem.W.kitOne K (.type "int") (.type "bool") = some false)
    (kit_int_int : PySem.W.kitOne K (.type "int") (.type "int") = some true)
    (kit_tuple_tuple : PySem.W.kitOne K (.type "tuple") (.type "tuple") = some true)
    (xm_BadKind_BadKind : PySem.W.exmOne K (.ref C_BadKind) (.ref C_BadKind) = some true)
    (xm_BadNumber_BadKind : PySem.W.exmOne K (.ref C_BadNumber) (.ref C_BadKind) = some false)
    (xm_DampError_BadKind : PySem.W.exmOne K (.ref C_DampError) (.ref C_BadKind) = some false)
    (xm_TooLarge_BadKind : PySem.W.exmOne K (.ref C_TooLarge) (.ref C_BadKind) = some false)
    (y_ValueError : PySem.W.nsIn K mainGlobals "ValueError" = some none)
    (y_bool : PySem.W.nsIn K mainGlobals "bool" = some none)
    (y_int : PySem.W.nsIn K mainGlobals "int" = some none)
    (y_isinstance : PySem.W.nsIn K mainGlobals "isinstance" = some none)
    (y_iter : PySem.W.nsIn K mainGlobals "iter" = some none)
    (y_len : PySem.W.nsIn K mainGlobals "len" = some none)
    (y_list : PySem.W.nsIn K mainGlobals "list" = some none)
    (y_max : PySem.W.nsIn K mainGlobals "max" = some none)
    (y_min : PySem.W.nsIn K mainGlobals "min" = some none)
    (y_range : PySem.W.nsIn K mainGlobals "range" = some none)
    (y_sorted : PySem.W.nsIn K mainGlobals "sorted" = some none)
    (y_tuple : PySem.W.nsIn K mainGlobals "tuple" = some none)
    (y_MOST_KINDS : PySem.W.nsIn K mainGlobals "MOST_KINDS" = some (some (.int 300 tkg_MOST_KINDS)))
    (y_MOST_RUN : PySem.W.nsIn K mainGlobals "MOST_RUN" = some (some (.int 120 tkg_MOST_RUN)))
    (y_MOST_SPELL : PySem.W.nsIn K mainGlobals "MOST_SPELL" = some (some (.int 16 tkg_MOST_SPELL)))
    (a_f_check_kind : PySem.W.nsIn K mainGlobals "check_kind" = some (some (.ref f_f_check_kind)))
    (l_f_check_kind : K.lookup f_f_check_kind = some ⟨oc_f_check_kind, od_f_check_kind, .func (PySem.W.fnOf "check_kind" "check_kind" (defArgs s_f_check_kind) (defBody s_f_check_kind) (defScope s_f_check_kind) .none kV_f_check_kind dc_f_check_kind pm_f_check_kind an_f_check_kind cd_f_check_kind ct_f_check_kind), sl_f_check_kind⟩)
    (e_f_check_kind : PySem.W.codeIn K cd_f_check_kind "check_kind" = true)
    (k_f_check_kind : PySem.W.keepIn K (.ref f_f_check_kind) = true)
    (a_f_check_kinds : PySem.W.nsIn K mainGlobals "check_kinds" = some (some (.ref f_f_check_kinds)))
    (l_f_check_kinds : K.lookup f_f_check_kinds = some ⟨oc_f_check_kinds, od_f_check_kinds, .func (PySem.W.fnOf "check_kinds" "check_kinds" (defArgs s_f_check_kinds) (defBody s_f_check_kinds) (defScope s_f_check_kinds) .none kV_f_check_kinds dc_f_check_kinds pm_f_check_kinds an_f_check_kinds cd_f_check_kinds ct_f_check_kinds), sl_f_check_kinds⟩)
    (e_f_check_kinds : PySem.W.codeIn K cd_f_check_kinds "check_kinds" = true)
    (k_f_check_kinds : PySem.W.keepIn K (.ref f_f_check_kinds) = true)
    (a_f_plain_list : PySem.W.nsIn K mainGlobals "plain_list" = some (some (.ref f_f_plain_list)))
    (l_f_plain_list : K.lookup f_f_plain_list = some ⟨oc_f_plain_list, od_f_plain_list, .func (PySem.W.fnOf "plain_list" "plain_list" (defArgs s_f_plain_list) (defBody s_f_plain_list) (defScope s_f_plain_list) .none kV_f_plain_list dc_f_plain_list pm_f_plain_list an_f_plain_list cd_f_plain_list ct_f_plain_list), sl_f_plain_list⟩)
    (e_f_plain_list : PySem.W.codeIn K cd_f_plain_list "plain_list" = true)
    (k_f_plain_list : PySem.W.keepIn K (.ref f_f_plain_list) = true)
    (a_Climate_init : PySem.W.findIn K (.ref C_Climate) "__init__" = some (some (.ref f_Climate_init)))
    (j_Climate_init : PySem.W.isFn K (.ref f_Climate_init) = true)
    (l_Climate_init : K.lookup f_Climate_init = some ⟨oc_Climate_init, od_Climate_init, .func (PySem.W.fnOf "__init__" "Climate.__init__" (defArgs s_Climate_init) (defBody s_Climate_init) (defScope s_Climate_init) .none kV_Climate_init dc_Climate_init pm_Climate_init an_Climate_init cd_Climate_init ct_Climate_init), sl_Climate_init⟩)
    (e_Climate_init : PySem.W.codeIn K cd_Climate_init "Climate.__init__" = true)
    (k_Climate_init : PySem.W.keepIn K (.ref f_Climate_init) = true)
    (a_Climate_dry : PySem.W.findCls K (.ref C_Climate) (.type "type") "dry" = some (.get (.builtin "staticmethod.__get__") (.ref p_Climate_dry) .none (.ref C_Climate)))
    (pr_Climate_dry : PySem.W.recIn K p_Climate_dry "staticmethod" = some (.ref f_Climate_dry :: rest_Climate_dry))
    (l_Climate_dry : K.lookup f_Climate_dry = some ⟨oc_Climate_dry, od_Climate_dry, .func (PySem.W.fnOf "dry" "Climate.dry" (defArgs s_Climate_dry) (defBody s_Climate_dry) (defScope s_Climate_dry) .none kV_Climate_dry dc_Climate_dry pm_Climate_dry an_Climate_dry cd_Climate_dry ct_Climate_dry), sl_Climate_dry⟩)
    (e_Climate_dry : PySem.W.codeIn K cd_Climate_dry "Climate.dry" = true)
    (k_Climate_dry : PySem.W.keepIn K (.ref f_Climate_dry) = true)
    (a_Climate_single : PySem.W.findCls K (.ref C_Climate) (.type "type") "single" = some (.get (.builtin "classmethod.__get__") (.ref p_Climate_single) .none (.ref C_Climate)))
    (pr_Climate_single : PySem.W.recIn K p_Climate_single "classmethod" = some (.ref f_Climate_single :: rest_Climate_single))
    (j_Climate_single : PySem.W.fnIn K f_Climate_single = true)
    (l_Climate_single : K.lookup f_Climate_single = some ⟨oc_Climate_single, od_Climate_single, .func (PySem.W.fnOf "single" "Climate.single" (defArgs s_Climate_single) (defBody s_Climate_single) (defScope s_Climate_single) .none kV_Climate_single dc_Climate_single pm_Climate_single an_Climate_single cd_Climate_single ct_Climate_single), sl_Climate_single⟩)
    (e_Climate_single : PySem.W.codeIn K cd_Climate_single "Climate.single" = true)
    (k_Climate_single : PySem.W.keepIn K (.ref f_Climate_single) = true)
    (a_Climate_longest : PySem.W.findIn K (.ref C_Climate) "longest" = some (some (.ref f_Climate_longest)))
    (j_Climate_longest : PySem.W.isFn K (.ref f_Climate_longest) = true)
    (l_Climate_longest : K.lookup f_Climate_longest = some ⟨oc_Climate_longest, od_Climate_longest, .func (PySem.W.fnOf "longest" "Climate.longest" (defArgs s_Climate_longest) (defBody s_Climate_longest) (defScope s_Climate_longest) .none kV_Climate_longest dc_Climate_longest pm_Climate_longest an_Climate_longest cd_Climate_longest ct_Climate_longest), sl_Climate_longest⟩)
    (e_Climate_longest : PySem.W.codeIn K cd_Climate_longest "Climate.longest" = true)
    (k_Climate_longest : PySem.W.keepIn K (.ref f_Climate_longest) = true)
    (a_l_int : PySem.W.nsIn K mainGlobals "_law_int" = some (some (.ref f_l_int)))
    (l_l_int : K.lookup f_l_int = some ⟨oc_l_int, od_l_int, .func (PySem.W.fnOf "_law_int" "_law_int" (defArgs s_l_int) (defBody s_l_int) (defScope s_l_int) .none kV_l_int dc_l_int pm_l_int an_l_int cd_l_int ct_l_int), sl_l_int⟩)
    (e_l_int : PySem.W.codeIn K cd_l_int "_law_int" = true)
    (k_l_int : PySem.W.keepIn K (.ref f_l_int) = true)
    (a_l_longest : PySem.W.nsIn K mainGlobals "_law_longest" = some (some (.ref f_l_longest)))
    (l_l_longest : K.lookup f_l_longest = some ⟨oc_l_longest, od_l_longest, .func (PySem.W.fnOf "_law_longest" "_law_longest" (defArgs s_l_longest) (defBody s_l_longest) (defScope s_l_longest) .none kV_l_longest dc_l_longest pm_l_longest an_l_longest cd_l_longest ct_l_longest), sl_l_longest⟩)
    (e_l_longest : PySem.W.codeIn K cd_l_longest "_law_longest" = true)
    (k_l_longest : PySem.W.keepIn K (.ref f_l_longest) = true)
    (a_l_lets : PySem.W.nsIn K mainGlobals "_law_lets" = some (some (.ref f_l_lets)))
    (l_l_lets : K.lookup f_l_lets = some ⟨oc_l_lets, od_l_lets, .func (PySem.W.fnOf "_law_lets" "_law_lets" (defArgs s_l_lets) (defBody s_l_lets) (defScope s_l_lets) .none kV_l_lets dc_l_lets pm_l_lets an_l_lets cd_l_lets ct_l_lets), sl_l_lets⟩)
    (e_l_lets : PySem.W.codeIn K cd_l_lets "_law_lets" = true)
    (k_l_lets : PySem.W.keepIn K (.ref f_l_lets) = true)
    (a_Climate_least_run : PySem.W.findIn K (.ref C_Climate) "least_run" = some (some (.ref f_Climate_least_run)))
    (j_Climate_least_run : PySem.W.isFn K (.ref f_Climate_least_run) = true)
    (l_Climate_least_run : K.lookup f_Climate_least_run = some ⟨oc_Climate_least_run, od_Climate_least_run, .func (PySem.W.fnOf "least_run" "Climate.least_run" (defArgs s_Climate_least_run) (defBody s_Climate_least_run) (defScope s_Climate_least_run) .none kV_Climate_least_run dc_Climate_least_run pm_Climate_least_run an_Climate_least_run cd_Climate_least_run ct_Climate_least_run), sl_Climate_least_run⟩)
    (e_Climate_least_run : PySem.W.codeIn K cd_Climate_least_run "Climate.least_run" = true)
    (k_Climate_least_run : PySem.W.keepIn K (.ref f_Climate_least_run) = true)
    (a_l_starts : PySem.W.nsIn K mainGlobals "_law_starts" = some (some (.ref f_l_starts)))
    (l_l_starts : K.lookup f_l_starts = some ⟨oc_l_starts, od_l_starts, .func (PySem.W.fnOf "_law_starts" "_law_starts" (defArgs s_l_starts) (defBody s_l_starts) (defScope s_l_starts) .none kV_l_starts dc_l_starts pm_l_starts an_l_starts cd_l_starts ct_l_starts), sl_l_starts⟩)
    (e_l_starts : PySem.W.codeIn K cd_l_starts "_law_starts" = true)
    (k_l_starts : PySem.W.keepIn K (.ref f_l_starts) = true)
    (a_Climate_iter : PySem.W.findIn K (.ref C_Climate) "__iter__" = some (some (.ref f_Climate_iter)))
    (j_Climate_iter : PySem.W.isFn K (.ref f_Climate_iter) = true)
    (l_Climate_iter : K.lookup f_Climate_iter = some ⟨oc_Climate_iter, od_Climate_iter, .func (PySem.W.fnOf "__iter__" "Climate.__iter__" (defArgs s_Climate_iter) (defBody s_Climate_iter) (defScope s_Climate_iter) .none kV_Climate_iter dc_Climate_iter pm_Climate_iter an_Climate_iter cd_Climate_iter ct_Climate_iter), sl_Climate_iter⟩)
    (e_Climate_iter : PySem.W.codeIn K cd_Climate_iter "Climate.__iter__" = true)
    (k_Climate_iter : PySem.W.keepIn K (.ref f_Climate_iter) = true)
    (a_Climate_need : PySem.W.findIn K (.ref C_Climate) "need" = some (some (.ref p_Climate_need)))
    (pg_Climate_need : PySem.W.specialIn K (.ref p_Climate_need) "__get__" = some (some (.builtin "property.__get__")))
    (pt_Climate_need : PySem.W.takesIn K (.ref p_Climate_need) = some true)
    (pr_Climate_need : PySem.W.recIn K p_Climate_need "property" = some (.ref f_Climate_need :: rest_Climate_need))
    (l_Climate_need : K.lookup f_Climate_need = some ⟨oc_Climate_need, od_Climate_need, .func (PySem.W.fnOf "need" "Climate.need" (defArgs s_Climate_need) (defBody s_Climate_need) (defScope s_Climate_need) .none kV_Climate_need dc_Climate_need pm_Climate_need an_Climate_need cd_Climate_need ct_Climate_need), sl_Climate_need⟩)
    (e_Climate_need : PySem.W.codeIn K cd_Climate_need "Climate.need" = true)
    (k_Climate_need : PySem.W.keepIn K (.ref f_Climate_need) = true)
    (a_Climate_peak : PySem.W.findIn K (.ref C_Climate) "peak" = some (some (.ref p_Climate_peak)))
    (pg_Climate_peak : PySem.W.specialIn K (.ref p_Climate_peak) "__get__" = some (some (.builtin "property.__get__")))
    (pt_Climate_peak : PySem.W.takesIn K (.ref p_Climate_peak) = some true)
    (pr_Climate_peak : PySem.W.recIn K p_Climate_peak "property" = some (.ref f_Climate_peak :: rest_Climate_peak))
    (l_Climate_peak : K.lookup f_Climate_peak = some ⟨oc_Climate_peak, od_Climate_peak, .func (PySem.W.fnOf "peak" "Climate.peak" (defArgs s_Climate_peak) (defBody s_Climate_peak) (defScope s_Climate_peak) .none kV_Climate_peak dc_Climate_peak pm_Climate_peak an_Climate_peak cd_Climate_peak ct_Climate_peak), sl_Climate_peak⟩)
    (e_Climate_peak : PySem.W.codeIn K cd_Climate_peak "Climate.peak" = true)
    (k_Climate_peak : PySem.W.keepIn K (.ref f_Climate_peak) = true)
    (a_l_pairs : PySem.W.nsIn K mainGlobals "_law_pairs" = some (some (.ref f_l_pairs)))
    (l_l_pairs : K.lookup f_l_pairs = some ⟨oc_l_pairs, od_l_pairs, .func (PySem.W.fnOf "_law_pairs" "_law_pairs" (defArgs s_l_pairs) (defBody s_l_pairs) (defScope s_l_pairs) .none kV_l_pairs dc_l_pairs pm_l_pairs an_l_pairs cd_l_pairs ct_l_pairs), sl_l_pairs⟩)
    (e_l_pairs : PySem.W.codeIn K cd_l_pairs "_law_pairs" = true)
    (k_l_pairs : PySem.W.keepIn K (.ref f_l_pairs) = true)
    (a_l_tells : PySem.W.nsIn K mainGlobals "_law_tells" = some (some (.ref f_l_tells)))
    (l_l_tells : K.lookup f_l_tells = some ⟨oc_l_tells, od_l_tells, .func (PySem.W.fnOf "_law_tells" "_law_tells" (defArgs s_l_tells) (defBody s_l_tells) (defScope s_l_tells) .none kV_l_tells dc_l_tells pm_l_tells an_l_tells cd_l_tells ct_l_tells), sl_l_tells⟩)
    (e_l_tells : PySem.W.codeIn K cd_l_tells "_law_tells" = true)
    (k_l_tells : PySem.W.keepIn K (.ref f_l_tells) = true)
    (a_l_agrees : PySem.W.nsIn K mainGlobals "_law_agrees" = some (some (.ref f_l_agrees)))
    (l_l_agrees : K.lookup f_l_agrees = some ⟨oc_l_agrees, od_l_agrees, .func (PySem.W.fnOf "_law_agrees" "_law_agrees" (defArgs s_l_agrees) (defBody s_l_agrees) (defScope s_l_agrees) .none kV_l_agrees dc_l_agrees pm_l_agrees an_l_agrees cd_l_agrees ct_l_agrees), sl_l_agrees⟩)
    (e_l_agrees : PySem.W.codeIn K cd_l_agrees "_law_agrees" = true)
    (k_l_agrees : PySem.W.keepIn K (.ref f_l_agrees) = true)
    (a_l_cell : PySem.W.nsIn K mainGlobals "_law_cell" = some (some (.ref f_l_cell)))
    (l_l_cell : K.lookup f_l_cell = some ⟨oc_l_cell, od_l_cell, .func (PySem.W.fnOf "_law_cell" "_law_cell" (defArgs s_l_cell) (defBody s_l_cell) (defScope s_l_cell) .none kV_l_cell dc_l_cell pm_l_cell an_l_cell cd_l_cell ct_l_cell), sl_l_cell⟩)
    (e_l_cell : PySem.W.codeIn K cd_l_cell "_law_cell" = true)
    (k_l_cell : PySem.W.keepIn K (.ref f_l_cell) = true)
    (a_Climate_eq : PySem.W.findIn K (.ref C_Climate) "__eq__" = some (some (.ref f_Climate_eq)))
    (j_Climate_eq : PySem.W.isFn K (.ref f_Climate_eq) = true)
    (l_Climate_eq : K.lookup f_Climate_eq = some ⟨oc_Climate_eq, od_Climate_eq, .func (PySem.W.fnOf "__eq__" "Climate.__eq__" (defArgs s_Climate_eq) (defBody s_Climate_eq) (defScope s_Climate_eq) .none kV_Climate_eq dc_Climate_eq pm_Climate_eq an_Climate_eq cd_Climate_eq ct_Climate_eq), sl_Climate_eq⟩)
    (e_Climate_eq : PySem.W.codeIn K cd_Climate_eq "Climate.__eq__" = true)
    (k_Climate_eq : PySem.W.keepIn K (.ref f_Climate_eq) = true)
    (a_l_equals : PySem.W.nsIn K mainGlobals "_law_equals" = some (some (.ref f_l_equals)))
    (l_l_equals : K.lookup f_l_equals = some ⟨oc_l_equals, od_l_equals, .func (PySem.W.fnOf "_law_equals" "_law_equals" (defArgs s_l_equals) (defBody s_l_equals) (defScope s_l_equals) .none kV_l_equals dc_l_equals pm_l_equals an_l_equals cd_l_equals ct_l_equals), sl_l_equals⟩)
    (e_l_equals : PySem.W.codeIn K cd_l_equals "_law_equals" = true)
    (k_l_equals : PySem.W.keepIn K (.ref f_l_equals) = true)
    (a_l_take : PySem.W.nsIn K mainGlobals "_law_take" = some (some (.ref f_l_take)))
    (l_l_take : K.lookup f_l_take = some ⟨oc_l_take, od_l_take, .func (PySem.W.fnOf "_law_take" "_law_take" (defArgs s_l_take) (defBody s_l_take) (defScope s_l_take) .none kV_l_take dc_l_take pm_l_take an_l_take cd_l_take ct_l_take), sl_l_take⟩)
    (e_l_take : PySem.W.codeIn K cd_l_take "_law_take" = true)
    (k_l_take : PySem.W.keepIn K (.ref f_l_take) = true)
    (a_l_stairs : PySem.W.nsIn K mainGlobals "_law_stairs" = some (some (.ref f_l_stairs)))
    (l_l_stairs : K.lookup f_l_stairs = some ⟨oc_l_stairs, od_l_stairs, .func (PySem.W.fnOf "_law_stairs" "_law_stairs" (defArgs s_l_stairs) (defBody s_l_stairs) (defScope s_l_stairs) .none kV_l_stairs dc_l_stairs pm_l_stairs an_l_stairs cd_l_stairs ct_l_stairs), sl_l_stairs⟩)
    (e_l_stairs : PySem.W.codeIn K cd_l_stairs "_law_stairs" = true)
    (k_l_stairs : PySem.W.keepIn K (.ref f_l_stairs) = true)
    (a_l_kinds : PySem.W.nsIn K mainGlobals "_law_kinds" = some (some (.ref f_l_kinds)))
    (l_l_kinds : K.lookup f_l_kinds = some ⟨oc_l_kinds, od_l_kinds, .func (PySem.W.fnOf "_law_kinds" "_law_kinds" (defArgs s_l_kinds) (defBody s_l_kinds) (defScope s_l_kinds) .none kV_l_kinds dc_l_kinds pm_l_kinds an_l_kinds cd_l_kinds ct_l_kinds), sl_l_kinds⟩)
    (e_l_kinds : PySem.W.codeIn K cd_l_kinds "_law_kinds" = true)
    (k_l_kinds : PySem.W.keepIn K (.ref f_l_kinds) = true)
    (a_l_made : PySem.W.nsIn K mainGlobals "_law_made" = some (some (.ref f_l_made)))
    (l_l_made : K.lookup f_l_made = some ⟨oc_l_made, od_l_made, .func (PySem.W.fnOf "_law_made" "_law_made" (defArgs s_l_made) (defBody s_l_made) (defScope s_l_made) .none kV_l_made dc_l_made pm_l_made an_l_made cd_l_made ct_l_made), sl_l_made⟩)
    (e_l_made : PySem.W.codeIn K cd_l_made "_law_made" = true)
    (k_l_made : PySem.W.keepIn K (.ref f_l_made) = true)
    (a_l_other : PySem.W.nsIn K mainGlobals "_law_other" = some (some (.ref f_l_other)))
    (l_l_other : K.lookup f_l_other = some ⟨oc_l_other, od_l_other, .func (PySem.W.fnOf "_law_other" "_law_other" (defArgs s_l_other) (defBody s_l_other) (defScope s_l_other) .none kV_l_other dc_l_other pm_l_other an_l_other cd_l_other ct_l_other), sl_l_other⟩)
    (e_l_other : PySem.W.codeIn K cd_l_other "_law_other" = true)
    (k_l_other : PySem.W.keepIn K (.ref f_l_other) = true)
    (a_l_needless : PySem.W.nsIn K mainGlobals "_law_needless" = some (some (.ref f_l_needless)))
    (l_l_needless : K.lookup f_l_needless = some ⟨oc_l_needless, od_l_needless, .func (PySem.W.fnOf "_law_needless" "_law_needless" (defArgs s_l_needless) (defBody s_l_needless) (defScope s_l_needless) .none kV_l_needless dc_l_needless pm_l_needless an_l_needless cd_l_needless ct_l_needless), sl_l_needless⟩)
    (e_l_needless : PySem.W.codeIn K cd_l_needless "_law_needless" = true)
    (k_l_needless : PySem.W.keepIn K (.ref f_l_needless) = true)
    (a_l_plain : PySem.W.nsIn K mainGlobals "_law_plain" = some (some (.ref f_l_plain)))
    (l_l_plain : K.lookup f_l_plain = some ⟨oc_l_plain, od_l_plain, .func (PySem.W.fnOf "_law_plain" "_law_plain" (defArgs s_l_plain) (defBody s_l_plain) (defScope s_l_plain) .none kV_l_plain dc_l_plain pm_l_plain an_l_plain cd_l_plain ct_l_plain), sl_l_plain⟩)
    (e_l_plain : PySem.W.codeIn K cd_l_plain "_law_plain" = true)
    (k_l_plain : PySem.W.keepIn K (.ref f_l_plain) = true)
    (a_l_pool : PySem.W.nsIn K mainGlobals "_law_pool" = some (some (.ref f_l_pool)))
    (l_l_pool : K.lookup f_l_pool = some ⟨oc_l_pool, od_l_pool, .func (PySem.W.fnOf "_law_pool" "_law_pool" (defArgs s_l_pool) (defBody s_l_pool) (defScope s_l_pool) .none kV_l_pool dc_l_pool pm_l_pool an_l_pool cd_l_pool ct_l_pool), sl_l_pool⟩)
    (e_l_pool : PySem.W.codeIn K cd_l_pool "_law_pool" = true)
    (k_l_pool : PySem.W.keepIn K (.ref f_l_pool) = true)
    (a_l_refuses : PySem.W.nsIn K mainGlobals "_law_refuses" = some (some (.ref f_l_refuses)))
    (l_l_refuses : K.lookup f_l_refuses = some ⟨oc_l_refuses, od_l_refuses, .func (PySem.W.fnOf "_law_refuses" "_law_refuses" (defArgs s_l_refuses) (defBody s_l_refuses) (defScope s_l_refuses) .none kV_l_refuses dc_l_refuses pm_l_refuses an_l_refuses cd_l_refuses ct_l_refuses), sl_l_refuses⟩)
    (e_l_refuses : PySem.W.codeIn K cd_l_refuses "_law_refuses" = true)
    (k_l_refuses : PySem.W.keepIn K (.ref f_l_refuses) = true)
    (a_l_single_refuses : PySem.W.nsIn K mainGlobals "_law_single_refuses" = some (some (.ref f_l_single_refuses)))
    (l_l_single_refuses : K.lookup f_l_single_refuses = some ⟨oc_l_single_refuses, od_l_single_refuses, .func (PySem.W.fnOf "_law_single_refuses" "_law_single_refuses" (defArgs s_l_single_refuses) (defBody s_l_single_refuses) (defScope s_l_single_refuses) .none kV_l_single_refuses dc_l_single_refuses pm_l_single_refuses an_l_single_refuses cd_l_single_refuses ct_l_single_refuses), sl_l_single_refuses⟩)
    (e_l_single_refuses : PySem.W.codeIn K cd_l_single_refuses "_law_single_refuses" = true)
    (k_l_single_refuses : PySem.W.keepIn K (.ref f_l_single_refuses) = true)
    (a_l_stranger : PySem.W.nsIn K mainGlobals "_law_stranger" = some (some (.ref f_l_stranger)))
    (l_l_stranger : K.lookup f_l_stranger = some ⟨oc_l_stranger, od_l_stranger, .func (PySem.W.fnOf "_law_stranger" "_law_stranger" (defArgs s_l_stranger) (defBody s_l_stranger) (defScope s_l_stranger) .none kV_l_stranger dc_l_stranger pm_l_stranger an_l_stranger cd_l_stranger ct_l_stranger), sl_l_stranger⟩)
    (e_l_stranger : PySem.W.codeIn K cd_l_stranger "_law_stranger" = true)
    (k_l_stranger : PySem.W.keepIn K (.ref f_l_stranger) = true)
    (a_l_law : PySem.W.nsIn K mainGlobals "law" = some (some (.ref f_l_law)))
    (l_l_law : K.lookup f_l_law = some ⟨oc_l_law, od_l_law, .func (PySem.W.fnOf "law" "law" (defArgs s_l_law) (defBody s_l_law) (defScope s_l_law) .none kV_l_law dc_l_law pm_l_law an_l_law cd_l_law ct_l_law), sl_l_law⟩)
    (e_l_law : PySem.W.codeIn K cd_l_law "law" = true)
    (k_l_law : PySem.W.keepIn K (.ref f_l_law) = true) :
    ∃ fd : FuncData, (∀ (s : Shared) (v : Value), BindsTo s fd ⟨[v], []⟩ [("script", v)]) ∧ ∀ base : Heap, K.In base → base.Ns mainGlobals mg → FnOk l.prog w K mg base CX0 7 fa fd ["script"] (spLaw K) := by
  have e := hfa.symm.trans (PySem.W.mg_of X G a_l_law)
  cases e
  have T_BadKind : S_BadKind K mg ((adOf C_BadKind C_BadNumber C_Climate C_DampError C_TooLarge) .BadKind) := ⟨PySem.W.mg_of X G a_BadKind, c_BadKind_x, c_BadKind_kp, c_BadKind_b, c_BadKind_t, c_BadKind_i, c_BadKind_s, c_BadKind_hg, c_BadKind_hk, c_BadKind_hd, c_BadKind_ha, c_BadKind_hn, c_BadKind_ht, c_BadKind_hm⟩
  have T_BadNumber : S_BadNumber K mg ((adOf C_BadKind C_BadNumber C_Climate C_DampError C_TooLarge) .BadNumber) := ⟨PySem.W.mg_of X G a_BadNumber, c_BadNumber_x, c_BadNumber_kp, c_BadNumber_b, c_BadNumber_t, c_BadNumber_i, c_BadNumber_s, c_BadNumber_hg, c_BadNumber_hk, c_BadNumber_hd, c_BadNumber_ha, c_BadNumber_hn, c_BadNumber_ht, c_BadNumber_hm⟩
  have T_Climate : S_Climate K mg ((adOf C_BadKind C_BadNumber C_Climate C_DampError C_TooLarge) .Climate) := ⟨c_Climate_pg, c_Climate_hd, c_Climate_po, c_Climate_sa, PySem.W.mg_of X G a_Climate, c_Climate_sf, c_Climate_nf, c_Climate_ha, c_Climate_hn, c_Climate_ht, c_Climate_hm, c_Climate_kp, c_Climate_mkk, c_Climate_rd, c_Climate_ga, c_Climate_n___len__, c_Climate_n___length_hint__, c_Climate_n_kinds⟩
  have T_DampError : S_DampError K mg ((adOf C_BadKind C_BadNumber C_Climate C_DampError C_TooLarge) .DampError) := ⟨PySem.W.mg_of X G a_DampError, c_DampError_x, c_DampError_kp, c_DampError_b, c_DampError_t, c_DampError_i, c_DampError_s, c_DampError_hg, c_DampError_hk, c_DampError_hd, c_DampError_ha, c_DampError_hn, c_DampError_ht, c_DampError_hm⟩
  have T_TooLarge : S_TooLarge K mg ((adOf C_BadKind C_BadNumber C_Climate C_DampError C_TooLarge) .TooLarge) := ⟨PySem.W.mg_of X G a_TooLarge, c_TooLarge_x, c_TooLarge_kp, c_TooLarge_b, c_TooLarge_t, c_TooLarge_i, c_TooLarge_s, c_TooLarge_hg, c_TooLarge_hk, c_TooLarge_hd, c_TooLarge_ha, c_TooLarge_hn, c_TooLarge_ht, c_TooLarge_hm⟩
  have z_ValueError : mg "ValueError" = none := PySem.W.mg_none_of X G y_ValueError
  have z_bool : mg "bool" = none := PySem.W.mg_none_of X G y_bool
  have z_int : mg "int" = none := PySem.W.mg_none_of X G y_int
  have z_isinstance : mg "isinstance" = none := PySem.W.mg_none_of X G y_isinstance
  have z_iter : mg "iter" = none := PySem.W.mg_none_of X G y_iter
  have z_len : mg "len" = none := PySem.W.mg_none_of X G y_len
  have z_list : mg "list" = none := PySem.W.mg_none_of X G y_list
  have z_max : mg "max" = none := PySem.W.mg_none_of X G y_max
  have z_min : mg "min" = none := PySem.W.mg_none_of X G y_min
  have z_range : mg "range" = none := PySem.W.mg_none_of X G y_range
  have z_sorted : mg "sorted" = none := PySem.W.mg_none_of X G y_sorted
  have z_tuple : mg "tuple" = none := PySem.W.mg_none_of X G y_tuple
  have g_MOST_KINDS : ∃ u, mg "MOST_KINDS" = some u ∧ RelV (.int 300) u := ⟨_, PySem.W.mg_of X G y_MOST_KINDS, ⟨_, rfl⟩⟩
  have g_MOST_RUN : ∃ u, mg "MOST_RUN" = some u ∧ RelV (.int 120) u := ⟨_, PySem.W.mg_of X G y_MOST_RUN, ⟨_, rfl⟩⟩
  have g_MOST_SPELL : ∃ u, mg "MOST_SPELL" = some u ∧ RelV (.int 16) u := ⟨_, PySem.W.mg_of X G y_MOST_SPELL, ⟨_, rfl⟩⟩
  refine ⟨PySem.W.fnOf "law" "law" (defArgs s_l_law) (defBody s_l_law) (defScope s_l_law) .none kV_l_law dc_l_law pm_l_law an_l_law cd_l_law ct_l_law, fun s v => .of_eq rfl, fun base _ _ => ?_⟩
  have F_f_check_kind := fun_mk (st := s_f_check_kind) l_f_check_kind e_f_check_kind k_f_check_kind
  have b_f_check_kind := F_f_check_kind.binds (ps := ["w", "g"]) fun _ _ _ _ _ _ us hl => match us, hl with | [_, _], _ => rfl
  have m_f_check_kind := PySem.W.mg_of X G a_f_check_kind
  have O_f_check_kind : FnOk l.prog w K mg base (L2.CX l.prog w) 1 f_f_check_kind _ ["w", "g"] (spP K (adOf C_BadKind C_BadNumber C_Climate C_DampError C_TooLarge) 2 G_f_check_kind) := ok_f_check_kind (ad := (adOf C_BadKind C_BadNumber C_Climate C_DampError C_TooLarge)) F_f_check_kind (T_BadKind := T_BadKind) (g_MOST_RUN := g_MOST_RUN) (g_MOST_SPELL := g_MOST_SPELL)
  have F_f_check_kinds := fun_mk (st := s_f_check_kinds) l_f_check_kinds e_f_check_kinds k_f_check_kinds
  have b_f_check_kinds := F_f_check_kinds.binds (ps := ["kinds"]) fun _ _ _ _ _ _ us hl => match us, hl with | [_], _ => rfl
  have m_f_check_kinds := PySem.W.mg_of X G a_f_check_kinds
  have O_f_check_kinds : FnOk l.prog w K mg base (L2.CX l.prog w) 2 f_f_check_kinds _ ["kinds"] (spP K (adOf C_BadKind C_BadNumber C_Climate C_DampError C_TooLarge) 1 G_f_check_kinds) := ok_f_check_kinds (ad := (adOf C_BadKind C_BadNumber C_Climate C_DampError C_TooLarge)) F_f_check_kinds (T_BadKind := T_BadKind) (z_len := z_len) (g_MOST_KINDS := g_MOST_KINDS) (O_f_check_kind := O_f_check_kind) (m_f_check_kind := m_f_check_kind) (k_f_check_kind := k_f_check_kind) (b_f_check_kind := b_f_check_kind)
  have F_f_plain_list := fun_mk (st := s_f_plain_list) l_f_plain_list e_f_plain_list k_f_plain_list
  have b_f_plain_list := F_f_plain_list.binds (ps := ["kinds"]) fun _ _ _ _ _ _ us hl => match us, hl with | [_], _ => rfl
  have m_f_plain_list := PySem.W.mg_of X G a_f_plain_list
  have O_f_plain_list : FnOk l.prog w K mg base CX0 1 f_f_plain_list _ ["kinds"] (spP K (adOf C_BadKind C_BadNumber C_Climate C_DampError C_TooLarge) 1 G_f_plain_list) := ok_f_plain_list (ad := (adOf C_BadKind C_BadNumber C_Climate C_DampError C_TooLarge)) F_f_plain_list (z_min := z_min) (z_sorted := z_sorted)
  have F_Climate_init := fun_mk (st := s_Climate_init) l_Climate_init e_Climate_init k_Climate_init
  have b_Climate_init := F_Climate_init.binds (ps := ["self", "kinds"]) fun _ _ _ _ _ _ us hl => match us, hl with | [_, _], _ => rfl
  have I_Climate : Mk K ((adOf C_BadKind C_BadNumber C_Climate C_DampError C_TooLarge) .Climate) f_Climate_init := ⟨c_Climate_mkk, a_Climate_init, j_Climate_init, c_Climate_kp⟩
  have O_Climate_init : FnOk l.prog w K mg base (L2.CX l.prog w) 3 f_Climate_init _ ["self", "kinds"] (spP K (adOf C_BadKind C_BadNumber C_Climate C_DampError C_TooLarge) 2 G_Climate_init) := ok_Climate_init (ad := (adOf C_BadKind C_BadNumber C_Climate C_DampError C_TooLarge)) F_Climate_init (T_Climate := T_Climate) (z_tuple := z_tuple) (O_f_check_kinds := O_f_check_kinds) (m_f_check_kinds := m_f_check_kinds) (k_f_check_kinds := k_f_check_kinds) (b_f_check_kinds := b_f_check_kinds) (O_f_plain_list := O_f_plain_list) (m_f_plain_list := m_f_plain_list) (k_f_plain_list := k_f_plain_list) (b_f_plain_list := b_f_plain_list)
  have F_Climate_dry := fun_mk (st := s_Climate_dry) l_Climate_dry e_Climate_dry k_Climate_dry
  have b_Climate_dry := F_Climate_dry.binds (ps := []) fun _ _ _ _ _ _ us hl => match us, hl with | [], _ => rfl
  have SM_Climate_dry : SMet K ((adOf C_BadKind C_BadNumber C_Climate C_DampError C_TooLarge) .Climate) (.type "type") "dry" p_Climate_dry f_Climate_dry := ⟨a_Climate_dry, ⟨rest_Climate_dry, pr_Climate_dry⟩⟩
  have O_Climate_dry : FnOk l.prog w K mg base (L2.CX l.prog w) 5 f_Climate_dry _ [] (spP K (adOf C_BadKind C_BadNumber C_Climate C_DampError C_TooLarge) 0 G_Climate_dry) := ok_Climate_dry (ad := (adOf C_BadKind C_BadNumber C_Climate C_DampError C_TooLarge)) F_Climate_dry (T_Climate := T_Climate) (O_Climate_init := O_Climate_init) (b_Climate_init := b_Climate_init) (I_Climate := I_Climate)
  have F_Climate_single := fun_mk (st := s_Climate_single) l_Climate_single e_Climate_single k_Climate_single
  have b_Climate_single := F_Climate_single.binds (ps := ["cls", "w", "g"]) fun _ _ _ _ _ _ us hl => match us, hl with | [_, _, _], _ => rfl
  have CM_Climate_single : ClX.CMet K ((adOf C_BadKind C_BadNumber C_Climate C_DampError C_TooLarge) .Climate) (.type "type") "single" p_Climate_single f_Climate_single := ⟨a_Climate_single, ⟨rest_Climate_single, pr_Climate_single⟩, j_Climate_single⟩
  have O_Climate_single : FnOk l.prog w K mg base (L2.CX l.prog w) 5 f_Climate_single _ ["cls", "w", "g"] (spP K (adOf C_BadKind C_BadNumber C_Climate C_DampError C_TooLarge) 3 G_Climate_single) := ok_Climate_single (ad := (adOf C_BadKind C_BadNumber C_Climate C_DampError C_TooLarge)) F_Climate_single (T_Climate := T_Climate) (O_Climate_init := O_Climate_init) (b_Climate_init := b_Climate_init) (I_Climate := I_Climate)
  have F_Climate_longest := fun_mk (st := s_Climate_longest) l_Climate_longest e_Climate_longest k_Climate_longest
  have b_Climate_longest := F_Climate_longest.binds (ps := ["self", "run"]) fun _ _ _ _ _ _ us hl => match us, hl with | [_, _], _ => rfl
  have M_Climate_longest : Meth K ((adOf C_BadKind C_BadNumber C_Climate C_DampError C_TooLarge) .Climate) "longest" f_Climate_longest := ⟨a_Climate_longest, j_Climate_longest, k_Climate_longest⟩
  have O_Climate_longest : FnOk l.prog w K mg base CX0 1 f_Climate_longest _ ["self", "run"] (spP K (adOf C_BadKind C_BadNumber C_Climate C_DampError C_TooLarge) 2 G_Climate_longest) := ok_Climate_longest (ad := (adOf C_BadKind C_BadNumber C_Climate C_DampError C_TooLarge)) F_Climate_longest (T_Climate := T_Climate) (z_max := z_max)
  have F_l_int := fun_mk (st := s_l_int) l_l_int e_l_int k_l_int
  have b_l_int := F_l_int.binds (ps := ["x"]) fun _ _ _ _ _ _ us hl => match us, hl with | [_], _ => rfl
  have m_l_int := PySem.W.mg_of X G a_l_int
  have O_l_int : FnOk l.prog w K mg base CX0 1 f_l_int _ ["x"] (spP K (adOf C_BadKind C_BadNumber C_Climate C_DampError C_TooLarge) 1 G_l_int) := ok_l_int (ad := (adOf C_BadKind C_BadNumber C_Climate C_DampError C_TooLarge)) F_l_int (z_bool := z_bool) (z_int := z_int) (z_isinstance := z_isinstance) (kit_NoneType_bool := kit_NoneType_bool) (kit_NoneType_int := kit_NoneType_int) (kit_int_bool := kit_int_bool) (kit_int_int := kit_int_int)
  have F_l_longest := fun_mk (st := s_l_longest) l_l_longest e_l_longest k_l_longest
  have b_l_longest := F_l_longest.binds (ps := ["kinds", "run"]) fun _ _ _ _ _ _ us hl => match us, hl with | [_, _], _ => rfl
  have m_l_longest := PySem.W.mg_of X G a_l_longest
  have O_l_longest : FnOk l.prog w K mg base CX0 1 f_l_longest _ ["kinds", "run"] (spP K (adOf C_BadKind C_BadNumber C_Climate C_DampError C_TooLarge) 2 G_l_longest) := ok_l_longest (ad := (adOf C_BadKind C_BadNumber C_Climate C_DampError C_TooLarge)) F_l_longest 
  have F_l_lets := fun_mk (st := s_l_lets) l_l_lets e_l_lets k_l_lets
  have b_l_lets := F_l_lets.binds (ps := ["climate", "kinds", "run"]) fun _ _ _ _ _ _ us hl => match us, hl with | [_, _, _], _ => rfl
  have m_l_lets := PySem.W.mg_of X G a_l_lets
  have O_l_lets : FnOk l.prog w K mg base CX0 2 f_l_lets _ ["climate", "kinds", "run"] (spP K (adOf C_BadKind C_BadNumber C_Climate C_DampError C_TooLarge) 3 G_l_lets) := ok_l_lets (ad := (adOf C_BadKind C_BadNumber C_Climate C_DampError C_TooLarge)) F_l_lets (T_Climate := T_Climate) (O_l_int := O_l_int) (m_l_int := m_l_int) (k_l_int := k_l_int) (b_l_int := b_l_int) (O_l_longest := O_l_longest) (m_l_longest := m_l_longest) (k_l_longest := k_l_longest) (b_l_longest := b_l_longest) (O_Climate_longest := O_Climate_longest) (b_Climate_longest := b_Climate_longest) (M_Climate_longest := M_Climate_longest)
  have F_Climate_least_run := fun_mk (st := s_Climate_least_run) l_Climate_least_run e_Climate_least_run k_Climate_least_run
  have b_Climate_least_run := F_Climate_least_run.binds (ps := ["self", "w"]) fun _ _ _ _ _ _ us hl => match us, hl with | [_, _], _ => rfl
  have M_Climate_least_run : Meth K ((adOf C_BadKind C_BadNumber C_Climate C_DampError C_TooLarge) .Climate) "least_run" f_Climate_least_run := ⟨a_Climate_least_run, j_Climate_least_run, k_Climate_least_run⟩
  have O_Climate_least_run : FnOk l.prog w K mg base CX0 1 f_Climate_least_run _ ["self", "w"] (spP K (adOf C_BadKind C_BadNumber C_Climate C_DampError C_TooLarge) 2 G_Climate_least_run) := ok_Climate_least_run (ad := (adOf C_BadKind C_BadNumber C_Climate C_DampError C_TooLarge)) F_Climate_least_run (T_Climate := T_Climate) (z_min := z_min)
  have F_l_starts := fun_mk (st := s_l_starts) l_l_starts e_l_starts k_l_starts
  have b_l_starts := F_l_starts.binds (ps := ["climate", "kinds", "w"]) fun _ _ _ _ _ _ us hl => match us, hl with | [_, _, _], _ => rfl
  have m_l_starts := PySem.W.mg_of X G a_l_starts
  have O_l_starts : FnOk l.prog w K mg base CX0 2 f_l_starts _ ["climate", "kinds", "w"] (spP K (adOf C_BadKind C_BadNumber C_Climate C_DampError C_TooLarge) 3 G_l_starts) := ok_l_starts (ad := (adOf C_BadKind C_BadNumber C_Climate C_DampError C_TooLarge)) F_l_starts (T_Climate := T_Climate) (z_len := z_len) (z_min := z_min) (O_l_int := O_l_int) (m_l_int := m_l_int) (k_l_int := k_l_int) (b_l_int := b_l_int) (O_Climate_least_run := O_Climate_least_run) (b_Climate_least_run := b_Climate_least_run) (M_Climate_least_run := M_Climate_least_run)
  have F_Climate_iter := fun_mk (st := s_Climate_iter) l_Climate_iter e_Climate_iter k_Climate_iter
  have b_Climate_iter := F_Climate_iter.binds (ps := ["self"]) fun _ _ _ _ _ _ us hl => match us, hl with | [_], _ => rfl
  have M_Climate_iter : Meth K ((adOf C_BadKind C_BadNumber C_Climate C_DampError C_TooLarge) .Climate) "__iter__" f_Climate_iter := ⟨a_Climate_iter, j_Climate_iter, k_Climate_iter⟩
  have O_Climate_iter : OW.FnS l.prog w K mg base 1 f_Climate_iter _ ["self"] (spIt K ((adOf C_BadKind C_BadNumber C_Climate C_DampError C_TooLarge) .Climate) "kinds") := ok_Climate_iter (ad := (adOf C_BadKind C_BadNumber C_Climate C_DampError C_TooLarge)) F_Climate_iter (T_Climate := T_Climate) (z_iter := z_iter)
  have F_Climate_need := fun_mk (st := s_Climate_need) l_Climate_need e_Climate_need k_Climate_need
  have b_Climate_need := F_Climate_need.binds (ps := ["self"]) fun _ _ _ _ _ _ us hl => match us, hl with | [_], _ => rfl
  have P_Climate_need : PropOf K ((adOf C_BadKind C_BadNumber C_Climate C_DampError C_TooLarge) .Climate) "need" p_Climate_need f_Climate_need := ⟨a_Climate_need, pg_Climate_need, pt_Climate_need, ⟨rest_Climate_need, pr_Climate_need⟩⟩
  have O_Climate_need : FnOk l.prog w K mg base CX0 1 f_Climate_need _ ["self"] (spP K (adOf C_BadKind C_BadNumber C_Climate C_DampError C_TooLarge) 1 G_Climate_need) := ok_Climate_need (ad := (adOf C_BadKind C_BadNumber C_Climate C_DampError C_TooLarge)) F_Climate_need (T_Climate := T_Climate) (z_max := z_max)
  have F_Climate_peak := fun_mk (st := s_Climate_peak) l_Climate_peak e_Climate_peak k_Climate_peak
  have b_Climate_peak := F_Climate_peak.binds (ps := ["self"]) fun _ _ _ _ _ _ us hl => match us, hl with | [_], _ => rfl
  have P_Climate_peak : PropOf K ((adOf C_BadKind C_BadNumber C_Climate C_DampError C_TooLarge) .Climate) "peak" p_Climate_peak f_Climate_peak := ⟨a_Climate_peak, pg_Climate_peak, pt_Climate_peak, ⟨rest_Climate_peak, pr_Climate_peak⟩⟩
  have O_Climate_peak : FnOk l.prog w K mg base CX0 1 f_Climate_peak _ ["self"] (spP K (adOf C_BadKind C_BadNumber C_Climate C_DampError C_TooLarge) 1 G_Climate_peak) := ok_Climate_peak (ad := (adOf C_BadKind C_BadNumber C_Climate C_DampError C_TooLarge)) F_Climate_peak (T_Climate := T_Climate) (z_max := z_max)
  have F_l_pairs := fun_mk (st := s_l_pairs) l_l_pairs e_l_pairs k_l_pairs
  have b_l_pairs := F_l_pairs.binds (ps := ["actual", "plain"]) fun _ _ _ _ _ _ us hl => match us, hl with | [_, _], _ => rfl
  have m_l_pairs := PySem.W.mg_of X G a_l_pairs
  have O_l_pairs : FnOk l.prog w K mg base CX0 2 f_l_pairs _ ["actual", "plain"] (spP K (adOf C_BadKind C_BadNumber C_Climate C_DampError C_TooLarge) 2 G_l_pairs) := ok_l_pairs (ad := (adOf C_BadKind C_BadNumber C_Climate C_DampError C_TooLarge)) F_l_pairs (z_isinstance := z_isinstance) (z_len := z_len) (z_range := z_range) (z_tuple := z_tuple) (kit_tuple_tuple := kit_tuple_tuple) (O_l_int := O_l_int) (m_l_int := m_l_int) (k_l_int := k_l_int) (b_l_int := b_l_int)
  have F_l_tells := fun_mk (st := s_l_tells) l_l_tells e_l_tells k_l_tells
  have b_l_tells := F_l_tells.binds (ps := ["climate", "plain"]) fun _ _ _ _ _ _ us hl => match us, hl with | [_, _], _ => rfl
  have m_l_tells := PySem.W.mg_of X G a_l_tells
  have O_l_tells : FnOk l.prog w K mg base CX0 4 f_l_tells _ ["climate", "plain"] (spP K (adOf C_BadKind C_BadNumber C_Climate C_DampError C_TooLarge) 2 G_l_tells) := ok_l_tells (ad := (adOf C_BadKind C_BadNumber C_Climate C_DampError C_TooLarge)) F_l_tells (T_Climate := T_Climate) (z_isinstance := z_isinstance) (z_list := z_list) (z_max := z_max) (z_tuple := z_tuple) (kit_Climate_Climate := kit_Climate_Climate) (kit_NoneType_Climate := kit_NoneType_Climate) (kit_tuple_tuple := kit_tuple_tuple) (O_l_int := O_l_int) (m_l_int := m_l_int) (k_l_int := k_l_int) (b_l_int := b_l_int) (O_l_pairs := O_l_pairs) (m_l_pairs := m_l_pairs) (k_l_pairs := k_l_pairs) (b_l_pairs := b_l_pairs) (O_Climate_iter := O_Climate_iter) (b_Climate_iter := b_Climate_iter) (M_Climate_iter := M_Climate_iter) (O_Climate_need := O_Climate_need) (b_Climate_need := b_Climate_need) (P_Climate_need := P_Climate_need) (O_Climate_peak := O_Climate_peak) (b_Climate_peak := b_Climate_peak) (P_Climate_peak := P_Climate_peak)
  have F_l_agrees := fun_mk (st := s_l_agrees) l_l_agrees e_l_agrees k_l_agrees
  have b_l_agrees := F_l_agrees.binds (ps := ["climate", "kinds", "plain"]) fun _ _ _ _ _ _ us hl => match us, hl with | [_, _, _], _ => rfl
  have m_l_agrees := PySem.W.mg_of X G a_l_agrees
  have O_l_agrees : FnOk l.prog w K mg base CX0 5 f_l_agrees _ ["climate", "kinds", "plain"] (spP K (adOf C_BadKind C_BadNumber C_Climate C_DampError C_TooLarge) 3 G_l_agrees) := ok_l_agrees (ad := (adOf C_BadKind C_BadNumber C_Climate C_DampError C_TooLarge)) F_l_agrees (z_range := z_range) (O_l_lets := O_l_lets) (m_l_lets := m_l_lets) (k_l_lets := k_l_lets) (b_l_lets := b_l_lets) (O_l_starts := O_l_starts) (m_l_starts := m_l_starts) (k_l_starts := k_l_starts) (b_l_starts := b_l_starts) (O_l_tells := O_l_tells) (m_l_tells := m_l_tells) (k_l_tells := k_l_tells) (b_l_tells := b_l_tells)
  have F_l_cell := fun_mk (st := s_l_cell) l_l_cell e_l_cell k_l_cell
  have b_l_cell := F_l_cell.binds (ps := ["script", "k"]) fun _ _ _ _ _ _ us hl => match us, hl with | [_, _], _ => rfl
  have m_l_cell := PySem.W.mg_of X G a_l_cell
  have O_l_cell : FnOk l.prog w K mg base CX0 1 f_l_cell _ ["script", "k"] (spP K (adOf C_BadKind C_BadNumber C_Climate C_DampError C_TooLarge) 2 G_l_cell) := ok_l_cell (ad := (adOf C_BadKind C_BadNumber C_Climate C_DampError C_TooLarge)) F_l_cell (z_len := z_len)
  have F_Climate_eq := fun_mk (st := s_Climate_eq) l_Climate_eq e_Climate_eq k_Climate_eq
  have b_Climate_eq := F_Climate_eq.binds (ps := ["self", "other"]) fun _ _ _ _ _ _ us hl => match us, hl with | [_, _], _ => rfl
  have M_Climate_eq : Meth K ((adOf C_BadKind C_BadNumber C_Climate C_DampError C_TooLarge) .Climate) "__eq__" f_Climate_eq := ⟨a_Climate_eq, j_Climate_eq, k_Climate_eq⟩
  have O_Climate_eq : FnOk l.prog w K mg base CX0 1 f_Climate_eq _ ["self", "other"] (spP K (adOf C_BadKind C_BadNumber C_Climate C_DampError C_TooLarge) 2 G_Climate_eq) := ok_Climate_eq (ad := (adOf C_BadKind C_BadNumber C_Climate C_DampError C_TooLarge)) F_Climate_eq (T_Climate := T_Climate) (z_isinstance := z_isinstance) (kit_Climate_Climate := kit_Climate_Climate) (kit_NoneType_Climate := kit_NoneType_Climate)
  have F_l_equals := fun_mk (st := s_l_equals) l_l_equals e_l_equals k_l_equals
  have b_l_equals := F_l_equals.binds (ps := ["one", "other", "due"]) fun _ _ _ _ _ _ us hl => match us, hl with | [_, _, _], _ => rfl
  have m_l_equals := PySem.W.mg_of X G a_l_equals
  have O_l_equals : FnOk l.prog w K mg base CX0 2 f_l_equals _ ["one", "other", "due"] (spP K (adOf C_BadKind C_BadNumber C_Climate C_DampError C_TooLarge) 3 G_l_equals) := ok_l_equals (ad := (adOf C_BadKind C_BadNumber C_Climate C_DampError C_TooLarge)) F_l_equals (T_Climate := T_Climate) (z_bool := z_bool) (z_isinstance := z_isinstance) (kit_bool_bool := kit_bool_bool) (O_Climate_eq := O_Climate_eq) (b_Climate_eq := b_Climate_eq) (M_Climate_eq := M_Climate_eq)
  have F_l_take := fun_mk (st := s_l_take) l_l_take e_l_take k_l_take
  have b_l_take := F_l_take.binds (ps := ["pool", "size"]) fun _ _ _ _ _ _ us hl => match us, hl with | [_, _], _ => rfl
  have m_l_take := PySem.W.mg_of X G a_l_take
  have O_l_take : FnOk l.prog w K mg base CX0 1 f_l_take _ ["pool", "size"] (spP K (adOf C_BadKind C_BadNumber C_Climate C_DampError C_TooLarge) 2 G_l_take) := ok_l_take (ad := (adOf C_BadKind C_BadNumber C_Climate C_DampError C_TooLarge)) F_l_take (z_int := z_int)
  have F_l_stairs := fun_mk (st := s_l_stairs) l_l_stairs e_l_stairs k_l_stairs
  have b_l_stairs := F_l_stairs.binds (ps := ["pool"]) fun _ _ _ _ _ _ us hl => match us, hl with | [_], _ => rfl
  have m_l_stairs := PySem.W.mg_of X G a_l_stairs
  have O_l_stairs : FnOk l.prog w K mg base CX0 2 f_l_stairs _ ["pool"] (spP K (adOf C_BadKind C_BadNumber C_Climate C_DampError C_TooLarge) 1 G_l_stairs) := ok_l_stairs (ad := (adOf C_BadKind C_BadNumber C_Climate C_DampError C_TooLarge)) F_l_stairs (z_len := z_len) (z_range := z_range) (O_l_take := O_l_take) (m_l_take := m_l_take) (k_l_take := k_l_take) (b_l_take := b_l_take)
  have F_l_kinds := fun_mk (st := s_l_kinds) l_l_kinds e_l_kinds k_l_kinds
  have b_l_kinds := F_l_kinds.binds (ps := ["pool"]) fun _ _ _ _ _ _ us hl => match us, hl with | [_], _ => rfl
  have m_l_kinds := PySem.W.mg_of X G a_l_kinds
  have O_l_kinds : FnOk l.prog w K mg base CX0 3 f_l_kinds _ ["pool"] (spP K (adOf C_BadKind C_BadNumber C_Climate C_DampError C_TooLarge) 1 G_l_kinds) := ok_l_kinds (ad := (adOf C_BadKind C_BadNumber C_Climate C_DampError C_TooLarge)) F_l_kinds (z_len := z_len) (z_range := z_range) (O_l_stairs := O_l_stairs) (m_l_stairs := m_l_stairs) (k_l_stairs := k_l_stairs) (b_l_stairs := b_l_stairs) (O_l_take := O_l_take) (m_l_take := m_l_take) (k_l_take := k_l_take) (b_l_take := b_l_take)
  have F_l_made := fun_mk (st := s_l_made) l_l_made e_l_made k_l_made
  have b_l_made := F_l_made.binds (ps := ["kinds"]) fun _ _ _ _ _ _ us hl => match us, hl with | [_], _ => rfl
  have m_l_made := PySem.W.mg_of X G a_l_made
  have O_l_made : FnOk l.prog w K mg base CX0 5 f_l_made _ ["kinds"] (spP K (adOf C_BadKind C_BadNumber C_Climate C_DampError C_TooLarge) 1 G_l_made) := ok_l_made (ad := (adOf C_BadKind C_BadNumber C_Climate C_DampError C_TooLarge)) F_l_made (T_BadKind := T_BadKind) (T_BadNumber := T_BadNumber) (T_Climate := T_Climate) (T_DampError := T_DampError) (T_TooLarge := T_TooLarge) (xm_BadKind_BadKind := xm_BadKind_BadKind) (xm_BadNumber_BadKind := xm_BadNumber_BadKind) (xm_DampError_BadKind := xm_DampError_BadKind) (xm_TooLarge_BadKind := xm_TooLarge_BadKind) (O_Climate_init := O_Climate_init) (b_Climate_init := b_Climate_init) (I_Climate := I_Climate)
  have F_l_other := fun_mk (st := s_l_other) l_l_other e_l_other k_l_other
  have b_l_other := F_l_other.binds (ps := ["pool", "kinds"]) fun _ _ _ _ _ _ us hl => match us, hl with | [_, _], _ => rfl
  have m_l_other := PySem.W.mg_of X G a_l_other
  have O_l_other : FnOk l.prog w K mg base CX0 4 f_l_other _ ["pool", "kinds"] (spP K (adOf C_BadKind C_BadNumber C_Climate C_DampError C_TooLarge) 2 G_l_other) := ok_l_other (ad := (adOf C_BadKind C_BadNumber C_Climate C_DampError C_TooLarge)) F_l_other (z_len := z_len) (z_list := z_list) (z_min := z_min) (O_l_kinds := O_l_kinds) (m_l_kinds := m_l_kinds) (k_l_kinds := k_l_kinds) (b_l_kinds := b_l_kinds) (O_l_take := O_l_take) (m_l_take := m_l_take) (k_l_take := k_l_take) (b_l_take := b_l_take)
  have F_l_needless := fun_mk (st := s_l_needless) l_l_needless e_l_needless k_l_needless
  have b_l_needless := F_l_needless.binds (ps := ["kind", "kinds"]) fun _ _ _ _ _ _ us hl => match us, hl with | [_, _], _ => rfl
  have m_l_needless := PySem.W.mg_of X G a_l_needless
  have O_l_needless : FnOk l.prog w K mg base CX0 1 f_l_needless _ ["kind", "kinds"] (spP K (adOf C_BadKind C_BadNumber C_Climate C_DampError C_TooLarge) 2 G_l_needless) := ok_l_needless (ad := (adOf C_BadKind C_BadNumber C_Climate C_DampError C_TooLarge)) F_l_needless 
  have F_l_plain := fun_mk (st := s_l_plain) l_l_plain e_l_plain k_l_plain
  have b_l_plain := F_l_plain.binds (ps := ["kinds"]) fun _ _ _ _ _ _ us hl => match us, hl with | [_], _ => rfl
  have m_l_plain := PySem.W.mg_of X G a_l_plain
  have O_l_plain : FnOk l.prog w K mg base CX0 2 f_l_plain _ ["kinds"] (spP K (adOf C_BadKind C_BadNumber C_Climate C_DampError C_TooLarge) 1 G_l_plain) := ok_l_plain (ad := (adOf C_BadKind C_BadNumber C_Climate C_DampError C_TooLarge)) F_l_plain (z_sorted := z_sorted) (O_l_needless := O_l_needless) (m_l_needless := m_l_needless) (k_l_needless := k_l_needless) (b_l_needless := b_l_needless)
  have F_l_pool := fun_mk (st := s_l_pool) l_l_pool e_l_pool k_l_pool
  have b_l_pool := F_l_pool.binds (ps := ["cell"]) fun _ _ _ _ _ _ us hl => match us, hl with | [_], _ => rfl
  have m_l_pool := PySem.W.mg_of X G a_l_pool
  have O_l_pool : FnOk l.prog w K mg base CX0 1 f_l_pool _ ["cell"] (spP K (adOf C_BadKind C_BadNumber C_Climate C_DampError C_TooLarge) 1 G_l_pool) := ok_l_pool (ad := (adOf C_BadKind C_BadNumber C_Climate C_DampError C_TooLarge)) F_l_pool (z_int := z_int)
  have F_l_refuses := fun_mk (st := s_l_refuses) l_l_refuses e_l_refuses k_l_refuses
  have b_l_refuses := F_l_refuses.binds (ps := ["kinds"]) fun _ _ _ _ _ _ us hl => match us, hl with | [_], _ => rfl
  have m_l_refuses := PySem.W.mg_of X G a_l_refuses
  have O_l_refuses : FnOk l.prog w K mg base CX0 5 f_l_refuses _ ["kinds"] (spP K (adOf C_BadKind C_BadNumber C_Climate C_DampError C_TooLarge) 1 G_l_refuses) := ok_l_refuses (ad := (adOf C_BadKind C_BadNumber C_Climate C_DampError C_TooLarge)) F_l_refuses (T_BadKind := T_BadKind) (T_BadNumber := T_BadNumber) (T_Climate := T_Climate) (T_DampError := T_DampError) (T_TooLarge := T_TooLarge) (z_ValueError := z_ValueError) (z_isinstance := z_isinstance) (z_list := z_list) (kit_BadKind_BadNumber := kit_BadKind_BadNumber) (kit_BadKind_DampError := kit_BadKind_DampError) (kit_BadKind_TooLarge := kit_BadKind_TooLarge) (kit_BadKind_ValueError := kit_BadKind_ValueError) (xm_BadKind_BadKind := xm_BadKind_BadKind) (xm_BadNumber_BadKind := xm_BadNumber_BadKind) (xm_DampError_BadKind := xm_DampError_BadKind) (xm_TooLarge_BadKind := xm_TooLarge_BadKind) (O_Climate_init := O_Climate_init) (b_Climate_init := b_Climate_init) (I_Climate := I_Climate)
  have F_l_single_refuses := fun_mk (st := s_l_single_refuses) l_l_single_refuses e_l_single_refuses k_l_single_refuses
  have b_l_single_refuses := F_l_single_refuses.binds (ps := ["pair"]) fun _ _ _ _ _ _ us hl => match us, hl with | [_], _ => rfl
  have m_l_single_refuses := PySem.W.mg_of X G a_l_single_refuses
  have O_l_single_refuses : FnOk l.prog w K mg base CX0 6 f_l_single_refuses _ ["pair"] (spP K (adOf C_BadKind C_BadNumber C_Climate C_DampError C_TooLarge) 1 G_l_single_refuses) := ok_l_single_refuses (ad := (adOf C_BadKind C_BadNumber C_Climate C_DampError C_TooLarge)) F_l_single_refuses (T_BadKind := T_BadKind) (T_BadNumber := T_BadNumber) (T_Climate := T_Climate) (T_DampError := T_DampError) (T_TooLarge := T_TooLarge) (z_ValueError := z_ValueError) (z_isinstance := z_isinstance) (kit_BadKind_BadNumber := kit_BadKind_BadNumber) (kit_BadKind_DampError := kit_BadKind_DampError) (kit_BadKind_TooLarge := kit_BadKind_TooLarge) (kit_BadKind_ValueError := kit_BadKind_ValueError) (xm_BadKind_BadKind := xm_BadKind_BadKind) (xm_BadNumber_BadKind := xm_BadNumber_BadKind) (xm_DampError_BadKind := xm_DampError_BadKind) (xm_TooLarge_BadKind := xm_TooLarge_BadKind) (O_Climate_single := O_Climate_single) (b_Climate_single := b_Climate_single) (CM_Climate_single := CM_Climate_single)
  have F_l_stranger := fun_mk (st := s_l_stranger) l_l_stranger e_l_stranger k_l_stranger
  have b_l_stranger := F_l_stranger.binds (ps := ["pool"]) fun _ _ _ _ _ _ us hl => match us, hl with | [_], _ => rfl
  have m_l_stranger := PySem.W.mg_of X G a_l_stranger
  have O_l_stranger : FnOk l.prog w K mg base CX0 2 f_l_stranger _ ["pool"] (spP K (adOf C_BadKind C_BadNumber C_Climate C_DampError C_TooLarge) 1 G_l_stranger) := ok_l_stranger (ad := (adOf C_BadKind C_BadNumber C_Climate C_DampError C_TooLarge)) F_l_stranger (O_l_take := O_l_take) (m_l_take := m_l_take) (k_l_take := k_l_take) (b_l_take := b_l_take)
  have F_l_law := fun_mk (st := s_l_law) l_l_law e_l_law k_l_law
  have O_l_law : FnOk l.prog w K mg base CX0 7 fa _ ["script"] (spP K (adOf C_BadKind C_BadNumber C_Climate C_DampError C_TooLarge) 1 G_l_law) := ok_l_law (ad := (adOf C_BadKind C_BadNumber C_Climate C_DampError C_TooLarge)) F_l_law (T_Climate := T_Climate) (z_len := z_len) (z_list := z_list) (z_range := z_range) (O_l_agrees := O_l_agrees) (m_l_agrees := m_l_agrees) (k_l_agrees := k_l_agrees) (b_l_agrees := b_l_agrees) (O_l_cell := O_l_cell) (m_l_cell := m_l_cell) (k_l_cell := k_l_cell) (b_l_cell := b_l_cell) (O_l_equals := O_l_equals) (m_l_equals := m_l_equals) (k_l_equals := k_l_equals) (b_l_equals := b_l_equals) (O_l_kinds := O_l_kinds) (m_l_kinds := m_l_kinds) (k_l_kinds := k_l_kinds) (b_l_kinds := b_l_kinds) (O_l_lets := O_l_lets) (m_l_lets := m_l_lets) (k_l_lets := k_l_lets) (b_l_lets := b_l_lets) (O_l_made := O_l_made) (m_l_made := m_l_made) (k_l_made := k_l_made) (b_l_made := b_l_made) (O_l_other := O_l_other) (m_l_other := m_l_other) (k_l_other := k_l_other) (b_l_other := b_l_other) (O_l_plain := O_l_plain) (m_l_plain := m_l_plain) (k_l_plain := k_l_plain) (b_l_plain := b_l_plain) (O_l_pool := O_l_pool) (m_l_pool := m_l_pool) (k_l_pool := k_l_pool) (b_l_pool := b_l_pool) (O_l_refuses := O_l_refuses) (m_l_refuses := m_l_refuses) (k_l_refuses := k_l_refuses) (b_l_refuses := b_l_refuses) (O_l_single_refuses := O_l_single_refuses) (m_l_single_refuses := m_l_single_refuses) (k_l_single_refuses := k_l_single_refuses) (b_l_single_refuses := b_l_single_refuses) (O_l_starts := O_l_starts) (m_l_starts := m_l_starts) (k_l_starts := k_l_starts) (b_l_starts := b_l_starts) (O_l_stranger := O_l_stranger) (m_l_stranger := m_l_stranger) (k_l_stranger := k_l_stranger) (b_l_stranger := b_l_stranger) (O_l_take := O_l_take) (m_l_take := m_l_take) (k_l_take := k_l_take) (b_l_take := b_l_take) (O_l_tells := O_l_tells) (m_l_tells := m_l_tells) (k_l_tells := k_l_tells) (b_l_tells := b_l_tells) (O_Climate_dry := O_Climate_dry) (b_Climate_dry := b_Climate_dry) (SM_Climate_dry := SM_Climate_dry) (k_Climate_dry := k_Climate_dry) (O_Climate_single := O_Climate_single) (b_Climate_single := b_Climate_single) (CM_Climate_single := CM_Climate_single)
  exact O_l_law.imp (spLaw_of law_pure)
end DP
open PySem PySem.W PyProof.Rows
set_option maxHeartbeats 0 in
theorem PySem.Challenge.cw_dampspells_k06_climate_plain_holds : PySem.Challenge.rw_dampspells_k06_climate_plain.Holds := by
  w_on; o_law; k_head; (case hw => w_witness2)
  k_fill
  refine L2.walk_of (l := PySem.Challenge.rw_dampspells_k06_climate_plain) (n := 63) (k := 7) (x := "script") (CX := fun _ => L2.CX0) (sp := fun w => PL.spLaw _) rfl (by decide) rfl ⟨rfl, by decide, by decide⟩ (fun w h Y => PySem.W.kIn_of Y) ?F (fun _ _ a ns hl _ hS => ⟨a, ns, rfl, hS, hl, fun _ => rfl⟩) (fun _ _ _ _ _ h => h)
  case F =>
    intro w mg fa h KX G hmg
    refine' DP.all_mk KX G hmg ?a_BadKind ?c_BadKind_x ?c_BadKind_kp ?c_BadKind_b ?c_BadKind_t ?c_BadKind_i ?c_BadKind_s ?c_BadKind_hg ?c_BadKind_hk ?c_BadKind_hd ?c_BadKind_ha ?c_BadKind_hn ?c_BadKind_ht ?c_BadKind_hm ?a_BadNumber ?c_BadNumber_x ?c_BadNumber_kp ?c_BadNumber_b ?c_BadNumber_t ?c_BadNumber_i ?c_BadNumber_s ?c_BadNumber_hg ?c_BadNumber_hk ?c_BadNumber_hd ?c_BadNumber_ha ?c_BadNumber_hn ?c_BadNumber_ht ?c_BadNumber_hm ?a_Climate ?c_Climate_pg ?c_Climate_hd ?c_Climate_po ?c_Climate_sa ?c_Climate_sf ?c_Climate_nf ?c_Climate_ha ?c_Climate_hn ?c_Climate_ht ?c_Climate_hm ?c_Climate_kp ?c_Climate_mkk ?c_Climate_rd ?c_Climate_ga ?c_Climate_n___len__ ?c_Climate_n___length_hint__ ?c_Climate_n_kinds ?a_DampError ?c_DampError_x ?c_DampError_kp ?c_DampError_b ?c_DampError_t ?c_DampError_i ?c_DampError_s ?c_DampError_hg ?c_DampError_hk ?c_DampError_hd ?c_DampError_ha ?c_DampError_hn ?c_DampError_ht ?c_DampError_hm ?a_TooLarge ?c_TooLarge_x ?c_TooLarge_kp ?c_TooLarge_b ?c_TooLarge_t ?c_TooLarge_i ?c_TooLarge_s ?c_TooLarge_hg ?c_TooLarge_hk ?c_TooLarge_hd ?c_TooLarge_ha ?c_TooLarge_hn ?c_TooLarge_ht ?c_TooLarge_hm ?kit_BadKind_BadNumber ?kit_BadKind_DampError ?kit_BadKind_TooLarge ?kit_BadKind_ValueError ?kit_Climate_Climate ?kit_NoneType_Climate ?kit_NoneType_bool ?kit_NoneType_int ?kit_bool_bool ?kit_int_bool ?kit_int_int ?kit_tuple_tuple ?xm_BadKind_BadKind ?xm_BadNumber_BadKind ?xm_DampError_BadKind ?xm_TooLarge_BadKind ?y_ValueError ?y_bool ?y_int ?y_isinstance ?y_iter ?y_len ?y_list ?y_max ?y_min ?y_range ?y_sorted ?y_tuple ?y_MOST_KINDS ?y_MOST_RUN ?y_MOST_SPELL ?a_f_check_kind ?l_f_check_kind ?e_f_check_kind ?k_f_check_kind ?a_f_check_kinds ?l_f_check_kinds ?e_f_check_kinds ?k_f_check_kinds ?a_f_plain_list ?l_f_plain_list ?e_f_plain_list ?k_f_plain_list ?a_Climate_init ?j_Climate_init ?l_Climate_init ?e_Climate_init ?k_Climate_init ?a_Climate_dry ?pr_Climate_dry ?l_Climate_dry ?e_Climate_dry ?k_Climate_dry ?a_Climate_single ?pr_Climate_single ?j_Climate_single ?l_Climate_single ?e_Climate_single ?k_Climate_single ?a_Climate_longest ?j_Climate_longest ?l_Climate_longest ?e_Climate_longest ?k_Climate_longest ?a_l_int ?l_l_int ?e_l_int ?k_l_int ?a_l_longest ?l_l_longest ?e_l_longest ?k_l_longest ?a_l_lets ?l_l_lets ?e_l_lets ?k_l_lets ?a_Climate_least_run ?j_Climate_least_run ?l_Climate_least_run ?e_Climate_least_run ?k_Climate_least_run ?a_l_starts ?l_l_starts ?e_l_starts ?k_l_starts ?a_Climate_iter ?j_Climate_iter ?l_Climate_iter ?e_Climate_iter ?k_Climate_iter ?a_Climate_need ?pg_Climate_need ?pt_Climate_need ?pr_Climate_need ?l_Climate_need ?e_Climate_need ?k_Climate_need ?a_Climate_peak ?pg_Climate_peak ?pt_Climate_peak ?pr_Climate_peak ?l_Climate_peak ?e_Climate_peak ?k_Climate_peak ?a_l_pairs ?l_l_pairs ?e_l_pairs ?k_l_pairs ?a_l_tells ?l_l_tells ?e_l_tells ?k_l_tells ?a_l_agrees ?l_l_agrees ?e_l_agrees ?k_l_agrees ?a_l_cell ?l_l_cell ?e_l_cell ?k_l_cell ?a_Climate_eq ?j_Climate_eq ?l_Climate_eq ?e_Climate_eq ?k_Climate_eq ?a_l_equals ?l_l_equals ?e_l_equals ?k_l_equals ?a_l_take ?l_l_take ?e_l_take ?k_l_take ?a_l_stairs ?l_l_stairs ?e_l_stairs ?k_l_stairs ?a_l_kinds ?l_l_kinds ?e_l_kinds ?k_l_kinds ?a_l_made ?l_l_made ?e_l_made ?k_l_made ?a_l_other ?l_l_other ?e_l_other ?k_l_other ?a_l_needless ?l_l_needless ?e_l_needless ?k_l_needless ?a_l_plain ?l_l_plain ?e_l_plain ?k_l_plain ?a_l_pool ?l_l_pool ?e_l_pool ?k_l_pool ?a_l_refuses ?l_l_refuses ?e_l_refuses ?k_l_refuses ?a_l_single_refuses ?l_l_single_refuses ?e_l_single_refuses ?k_l_single_refuses ?a_l_stranger ?l_l_stranger ?e_l_stranger ?k_l_stranger ?a_l_law ?l_l_law ?e_l_law ?k_l_law
    (case a_BadKind => k_is)
    (case c_BadKind_x => k_exc)
    (case c_BadKind_kp => k_is)
    (case c_BadKind_b => k_is)
    (case c_BadKind_t => k_is)
    (case c_BadKind_i => k_is)
    (case c_BadKind_s => k_is)
    (case c_BadKind_hg => k_is)
    (case c_BadKind_hk => k_is)
    (case c_BadKind_hd => k_is)
    (case c_BadKind_ha => k_is)
    (case c_BadKind_hn => k_is)
    (case c_BadKind_ht => k_is)
    (case c_BadKind_hm => k_is)
    (case a_BadNumber => k_is)
    (case c_BadNumber_x => k_exc)
    (case c_BadNumber_kp => k_is)
    (case c_BadNumber_b => k_is)
    (case c_BadNumber_t => k_is)
    (case c_BadNumber_i => k_is)
    (case c_BadNumber_s => k_is)
    (case c_BadNumber_hg => k_is)
    (case c_BadNumber_hk => k_is)
    (case c_BadNumber_hd => k_is)
    (case c_BadNumber_ha => k_is)
    (case c_BadNumber_hn => k_is)
    (case c_BadNumber_ht => k_is)
    (case c_BadNumber_hm => k_is)
    (case a_Climate => k_is)
    (case c_Climate_pg => k_is)
    (case c_Climate_hd => k_is)
    (case c_Climate_po => k_is)
    (case c_Climate_sa => k_is)
    (case c_Climate_sf => k_is)
    (case c_Climate_nf => k_is)
    (case c_Climate_ha => k_is)
    (case c_Climate_hn => k_is)
    (case c_Climate_ht => k_is)
    (case c_Climate_hm => k_is)
    (case c_Climate_kp => k_is)
    (case c_Climate_mkk => k_is)
    (case c_Climate_rd => k_is)
    (case c_Climate_ga => k_is)
    (case c_Climate_n___len__ => k_is)
    (case c_Climate_n___length_hint__ => k_is)
    (case c_Climate_n_kinds => k_is)
    (case a_DampError => k_is)
    (case c_DampError_x => k_exc)
    (case c_DampError_kp => k_is)
    (case c_DampError_b => k_is)
    (case c_DampError_t => k_is)
    (case c_DampError_i => k_is)
    (case c_DampError_s => k_is)
    (case c_DampError_hg => k_is)
    (case c_DampError_hk => k_is)
    (case c_DampError_hd => k_is)
    (case c_DampError_ha => k_is)
    (case c_DampError_hn => k_is)
    (case c_DampError_ht => k_is)
    (case c_DampError_hm => k_is)
    (case a_TooLarge => k_is)
    (case c_TooLarge_x => k_exc)
    (case c_TooLarge_kp => k_is)
    (case c_TooLarge_b => k_is)
    (case c_TooLarge_t => k_is)
    (case c_TooLarge_i => k_is)
    (case c_TooLarge_s => k_is)
    (case c_TooLarge_hg => k_is)
    (case c_TooLarge_hk => k_is)
    (case c_TooLarge_hd => k_is)
    (case c_TooLarge_ha => k_is)
    (case c_TooLarge_hn => k_is)
    (case c_TooLarge_ht => k_is)
    (case c_TooLarge_hm => k_is)
    (case kit_BadKind_BadNumber => first | k_is | decide +kernel | rfl)
    (case kit_BadKind_DampError => first | k_is | decide +kernel | rfl)
    (case kit_BadKind_TooLarge => first | k_is | decide +kernel | rfl)
    (case kit_BadKind_ValueError => first | k_is | decide +kernel | rfl)
    (case kit_Climate_Climate => first | k_is | decide +kernel | rfl)
    (case kit_NoneType_Climate => first | k_is | decide +kernel | rfl)
    (case kit_NoneType_bool => first | k_is | decide +kernel | rfl)
    (case kit_NoneType_int => first | k_is | decide +kernel | rfl)
    (case kit_bool_bool => first | k_is | decide +kernel | rfl)
    (case kit_int_bool => first | k_is | decide +kernel | rfl)
    (case kit_int_int => first | k_is | decide +kernel | rfl)
    (case kit_tuple_tuple => first | k_is | decide +kernel | rfl)
    (case xm_BadKind_BadKind => first | k_is | decide +kernel | rfl)
    (case xm_BadNumber_BadKind => first | k_is | decide +kernel | rfl)
    (case xm_DampError_BadKind => first | k_is | decide +kernel | rfl)
    (case xm_TooLarge_BadKind => first | k_is | decide +kernel | rfl)
    (case y_ValueError => k_is)
    (case y_bool => k_is)
    (case y_int => k_is)
    (case y_isinstance => k_is)
    (case y_iter => k_is)
    (case y_len => k_is)
    (case y_list => k_is)
    (case y_max => k_is)
    (case y_min => k_is)
    (case y_range => k_is)
    (case y_sorted => k_is)
    (case y_tuple => k_is)
    (case y_MOST_KINDS => k_is)
    (case y_MOST_RUN => k_is)
    (case y_MOST_SPELL => k_is)
    (case a_f_check_kind => k_is)
    (case l_f_check_kind => k_is)
    (case e_f_check_kind => k_is)
    (case k_f_check_kind => k_is)
    (case a_f_check_kinds => k_is)
    (case l_f_check_kinds => k_is)
    (case e_f_check_kinds => k_is)
    (case k_f_check_kinds => k_is)
    (case a_f_plain_list => k_is)
    (case l_f_plain_list => k_is)
    (case e_f_plain_list => k_is)
    (case k_f_plain_list => k_is)
    (case a_Climate_init => k_is)
    (case j_Climate_init => k_is)
    (case l_Climate_init => k_is)
    (case e_Climate_init => k_is)
    (case k_Climate_init => k_is)
    (case a_Climate_dry => k_is)
    (case pr_Climate_dry => k_is)
    (case l_Climate_dry => k_is)
    (case e_Climate_dry => k_is)
    (case k_Climate_dry => k_is)
    (case a_Climate_single => k_is)
    (case pr_Climate_single => k_is)
    (case j_Climate_single => k_is)
    (case l_Climate_single => k_is)
    (case e_Climate_single => k_is)
    (case k_Climate_single => k_is)
    (case a_Climate_longest => k_is)
    (case j_Climate_longest => k_is)
    (case l_Climate_longest => k_is)
    (case e_Climate_longest => k_is)
    (case k_Climate_longest => k_is)
    (case a_l_int => k_is)
    (case l_l_int => k_is)
    (case e_l_int => k_is)
    (case k_l_int => k_is)
    (case a_l_longest => k_is)
    (case l_l_longest => k_is)
    (case e_l_longest => k_is)
    (case k_l_longest => k_is)
    (case a_l_lets => k_is)
    (case l_l_lets => k_is)
    (case e_l_lets => k_is)
    (case k_l_lets => k_is)
    (case a_Climate_least_run => k_is)
    (case j_Climate_least_run => k_is)
    (case l_Climate_least_run => k_is)
    (case e_Climate_least_run => k_is)
    (case k_Climate_least_run => k_is)
    (case a_l_starts => k_is)
    (case l_l_starts => k_is)
    (case e_l_starts => k_is)
    (case k_l_starts => k_is)
    (case a_Climate_iter => k_is)
    (case j_Climate_iter => k_is)
    (case l_Climate_iter => k_is)
    (case e_Climate_iter => k_is)
    (case k_Climate_iter => k_is)
    (case a_Climate_need => k_is)
    (case pg_Climate_need => k_is)
    (case pt_Climate_need => k_is)
    (case pr_Climate_need => k_is)
    (case l_Climate_need => k_is)
    (case e_Climate_need => k_is)
    (case k_Climate_need => k_is)
    (case a_Climate_peak => k_is)
    (case pg_Climate_peak => k_is)
    (case pt_Climate_peak => k_is)
    (case pr_Climate_peak => k_is)
    (case l_Climate_peak => k_is)
    (case e_Climate_peak => k_is)
    (case k_Climate_peak => k_is)
    (case a_l_pairs => k_is)
    (case l_l_pairs => k_is)
    (case e_l_pairs => k_is)
    (case k_l_pairs => k_is)
    (case a_l_tells => k_is)
    (case l_l_tells => k_is)
    (case e_l_tells => k_is)
    (case k_l_tells => k_is)
    (case a_l_agrees => k_is)
    (case l_l_agrees => k_is)
    (case e_l_agrees => k_is)
    (case k_l_agrees => k_is)
    (case a_l_cell => k_is)
    (case l_l_cell => k_is)
    (case e_l_cell => k_is)
    (case k_l_cell => k_is)
    (case a_Climate_eq => k_is)
    (case j_Climate_eq => k_is)
    (case l_Climate_eq => k_is)
    (case e_Climate_eq => k_is)
    (case k_Climate_eq => k_is)
    (case a_l_equals => k_is)
    (case l_l_equals => k_is)
    (case e_l_equals => k_is)
    (case k_l_equals => k_is)
    (case a_l_take => k_is)
    (case l_l_take => k_is)
    (case e_l_take => k_is)
    (case k_l_take => k_is)
    (case a_l_stairs => k_is)
    (case l_l_stairs => k_is)
    (case e_l_stairs => k_is)
    (case k_l_stairs => k_is)
    (case a_l_kinds => k_is)
    (case l_l_kinds => k_is)
    (case e_l_kinds => k_is)
    (case k_l_kinds => k_is)
    (case a_l_made => k_is)
    (case l_l_made => k_is)
    (case e_l_made => k_is)
    (case k_l_made => k_is)
    (case a_l_other => k_is)
    (case l_l_other => k_is)
    (case e_l_other => k_is)
    (case k_l_other => k_is)
    (case a_l_needless => k_is)
    (case l_l_needless => k_is)
    (case e_l_needless => k_is)
    (case k_l_needless => k_is)
    (case a_l_plain => k_is)
    (case l_l_plain => k_is)
    (case e_l_plain => k_is)
    (case k_l_plain => k_is)
    (case a_l_pool => k_is)
    (case l_l_pool => k_is)
    (case e_l_pool => k_is)
    (case k_l_pool => k_is)
    (case a_l_refuses => k_is)
    (case l_l_refuses => k_is)
    (case e_l_refuses => k_is)
    (case k_l_refuses => k_is)
    (case a_l_single_refuses => k_is)
    (case l_l_single_refuses => k_is)
    (case e_l_single_refuses => k_is)
    (case k_l_single_refuses => k_is)
    (case a_l_stranger => k_is)
    (case l_l_stranger => k_is)
    (case e_l_stranger => k_is)
    (case k_l_stranger => k_is)
    (case a_l_law => k_is)
    (case l_l_law => k_is)
    (case e_l_law => k_is)
    (case k_l_law => k_is)
end
