import PyProof.Rows.All
import Wide.All
import OpenK.AllK
import Wide.FinOn
import HandS.ForMost
import HandS.ForExc
import HandS.Wide
import HandS.IsInst
import HandS.Codes
import HandS.Flow
import KE.DataMinMax
import HandS.TupAny
import PyProof.MaxThree
import HandS.Star
import HandS.FStr
import HandS.Property
import HandS.SortKw
import HandS.Defaults
import HandS.ClsMeth
import HandS.SlotsOwn
import HandS.ExcIs
import HandS.Gcd
import HandS.MakeKw
import KE.KOpsOwn
import KE.KOwnIter
import HandS.IterVal
import HandS.RaiseMore
import KE.KExcIs
import HandS.SortInts
import HandS.SortRule
import HandS.TryOnly
import HandS.ExcField
import HandS.Style
import HandS.Dict
import HandS.Text
import KE.DataEq
import PyProof.StrOps2
import HandS.TupLe
import KE.GoesEnum
import KE.GoesMore
import KE.KTupSum
import HandS.Zip
import KE.KExcSuper
import KE.KSuper
import HandS.ExcInit
import HandS.FStrTup
import HandS.OwnIter
import HandS.SetFor
import HandS.Conv
import KE.KCallOwn
import HandS.TupSets
import HandS.Keys
import HandS.Strs
import HandS.Comp
import HandS.SetBool
import HandS.StrMore
import HandS.GenList
import HandS.GenYield
import PySem.Challenge.RW_dampspells_k04_weather_cut_and_joined
set_option Elab.async false
set_option linter.all false
set_option maxRecDepth 100000
section
namespace PL
open PySem PySem.Spec PyProof.Rows L2
/-- the program's classes -/
inductive Cl
  | DampError | BadRatio | BadLacquer | BadKind | BadWeather | BadHour | BadNumber | BadRow | BadSteps | BadHabit | BadPrice | BadDiary | BadReport | TooLarge | NoWorld
  | BadText | Unsound | Strange | Spoilt | Clash | Refused
  | Ratio | Lacquer | Weather | Climate | StepSet | StepWeb | SkyWeb | Habit | HourWeb | PairWeb | HabitWeb | LongWeather | EndlessRow | Diary | Ledger | Paths | Desk
  deriving DecidableEq, Repr
/-- the fields in the order in which __init__ sets them -/
def Cl.fn : Cl → List Str
  | .BadText => ["at"] | .Unsound => ["kind"] | .Strange => ["hour"] | .Spoilt => ["hour"] | .Clash => ["hour"] | .Refused => ["why"]
  | .Ratio => ["top", "bottom"] | .Lacquer => ["a", "b"] | .Weather => ["lengths"] | .Climate => ["kinds"] | .StepSet => ["steps"] | .StepWeb => ["steps", "climate"] | .SkyWeb => ["climate"]
  | .Habit => ["sight", "rows"] | .LongWeather => ["beginning", "again"] | .Diary => ["marks"]
  | _ => []
/-- values as trees -/
inductive D where
  | non | bl (b : Bool) | int (i : Int) | str (s : Str)
  | tup (xs : List D) | lst (xs : List D) | obj (c : Cl) (xs : List D) | cl (c : Cl) | sq (xs : List D)
  | dK (ks : List Key) (xs : List D) | dT (ks : List (List Key)) (xs : List D)
/-- what a list, an object in the making, a dict holds while it may still change -/
inductive CC where
  | lst (xs : List D) | obj (c : Cl) (kvs : List (Str × D)) | dK (kvs : List (Key × D)) | dT (kvs : List (List Key × D))
/-- own: made here; par: a parameter's -/
inductive CK | own | par
  deriving DecidableEq
def CK.isPar : CK → Bool | .par => true | .own => false
inductive Sl where
  | un | dat (d : D) | cel (k : CK) (c : CC) | exn (c : Cl) (pl : Option D)
inductive Ex (α : Type) | ok (a : α) | er (c : Cl) (pl : Option D)
inductive Rv | d (d : D) | c (c : CC)
inductive Fl | nx | bk | ct | rt (r : Rv)
abbrev M (α : Type) := List Sl → Option (Ex α × List Sl)
abbrev Ev := M Rv
def bnd {α β : Type} (m : M α) (k : α → M β) : M β := fun ρ => match m ρ with
  | some (.ok a, ρ1) => k a ρ1
  | some (.er c pl, ρ1) => some (.er c pl, ρ1)
  | none => none
def pur {α : Type} (a : α) : M α := fun ρ => some (.ok a, ρ)
def fai {α : Type} : M α := fun _ => none
def opt {α : Type} : Option α → M α | some a => pur a | none => fai
def CC.froz : CC → Option D
  | .lst xs => some (.lst xs)
  | .obj c kvs => if kvs.map (·.1) = c.fn then some (.obj c (kvs.map (·.2))) else none
  | .dK kvs => some (.dK (kvs.map (·.1)) (kvs.map (·.2)))
  | .dT kvs => some (.dT (kvs.map (·.1)) (kvs.map (·.2)))
variable (K : PySem.W.Frag) (ad : Cl → Addr)
mutual
inductive Rp (F : Hp) : V → D → Prop
  | non : Rp F .non .non
  | bl (b : Bool) : Rp F (.bl b) (.bl b)
  | int (i : Int) : Rp F (.int i) (.int i)
  | str (s : Str) : Rp F (.str s) (.str s)
  | tup {p : Addr} {vs : List V} {ds : List D} : SqT K F p vs → Rps F vs ds → Rp F (.ref p) (.tup ds)
  | lst {p : Addr} {vs : List V} {ds : List D} : F p = some (.lst vs) → Rps F vs ds → Rp F (.ref p) (.lst ds)
  | sq {p : Addr} {vs : List V} {ds : List D} : SqL K F p vs → Rps F vs ds → Rp F (.ref p) (.sq ds)
  | obj {p dx : Addr} {c : Cl} {vs : List V} {ds : List D} : F p = some (.ins (ad c) dx (c.fn.zip vs)) → c.fn.length = vs.length → Rps F vs ds → Rp F (.ref p) (.obj c ds)
  | cl (c : Cl) : Rp F (.ref (ad c)) (.cl c)
  | dK {p : Addr} {ks : List Key} {vs : List V} {ds : List D} : F p = some (.dK (ks.zip vs)) → ks.length = vs.length → Rps F vs ds → Rp F (.ref p) (.dK ks ds)
  | dT {p : Addr} {ks : List (List Key)} {vs : List V} {ds : List D} : F p = some (.dT (ks.zip vs)) → ks.length = vs.length → Rps F vs ds → Rp F (.ref p) (.dT ks ds)
inductive Rps (F : Hp) : List V → List D → Prop
  | nil : Rps F [] []
  | cons {v : V} {d : D} {vs : List V} {ds : List D} : Rp F v d → Rps F vs ds → Rps F (v :: vs) (d :: ds)
end
variable {K : PySem.W.Frag} {ad : Cl → Addr}
theorem sameT {K : PySem.W.Frag} {H H' : Hp} {a : Addr} {xs : List V} (e : Same H H') (h : SqT K H a xs) : SqT K H' a xs := by
  (rcases h with (h | ⟨o, h⟩) | h)
  · exact .inl (.inl (e _ _ h))
  · (exact .inl (.inr ⟨o, e _ _ h⟩))
  · exact .inr h
mutual
theorem Rp.mono {F F' : Hp} (s : Same F F') : ∀ {v : V} {d : D}, Rp K ad F v d → Rp K ad F' v d
  | _, _, .non => .non
  | _, _, .bl b => .bl b
  | _, _, .int i => .int i
  | _, _, .str x => .str x
  | _, _, .tup h r => .tup (sameT s h) (Rps.mono s r)
  | _, _, .lst h r => .lst (s _ _ h) (Rps.mono s r)
  | _, _, .sq h r => .sq (s.seq h) (Rps.mono s r)
  | _, _, .obj h l r => .obj (s _ _ h) l (Rps.mono s r)
  | _, _, .cl c => .cl c
  | _, _, .dK h l r => .dK (s _ _ h) l (Rps.mono s r)
  | _, _, .dT h l r => .dT (s _ _ h) l (Rps.mono s r)
theorem Rps.mono {F F' : Hp} (s : Same F F') : ∀ {vs : List V} {ds : List D}, Rps K ad F vs ds → Rps K ad F' vs ds
  | _, _, .nil => .nil
  | _, _, .cons h r => .cons (Rp.mono s h) (Rps.mono s r)
end
theorem Rps.len {F : Hp} : ∀ {vs : List V} {ds : List D}, Rps K ad F vs ds → vs.length = ds.length
  | _, _, .nil => rfl
  | _, _, .cons _ r => congrArg (· + 1) r.len
theorem Rps.get {F : Hp} : ∀ {vs : List V} {ds : List D} {i : Nat} {d : D}, Rps K ad F vs ds → ds[i]? = some d → ∃ v, vs[i]? = some v ∧ Rp K ad F v d
  | _, _, _, _, .nil, e =>
    by simp at e
  | _, _, 0, _, .cons h _, e => by simp at e; subst e; exact ⟨_, rfl, h⟩
  | _, _, i + 1, d, .cons _ t, e => by
    obtain ⟨v, h1, h2⟩ := Rps.get (i := i) (d := d) t (by simpa using e)
    exact ⟨v, by simpa using h1, h2⟩
theorem Rps.app {F : Hp} : ∀ {vs : List V} {ds : List D} {us : List V} {es : List D}, Rps K ad F vs ds → Rps K ad F us es → Rps K ad F (vs ++ us) (ds ++ es)
  | _, _, _, _, .nil, s => s
  | _, _, _, _, .cons r t, s => .cons r (Rps.app t s)
theorem Rps.snoc {F : Hp} {vs : List V} {ds : List D} {v : V} {d : D} (h : Rps K ad F vs ds) (r : Rp K ad F v d) : Rps K ad F (vs ++ [v]) (ds ++ [d]) := h.app (.cons r .nil)
theorem Rps.set {F : Hp} {v : V} {d : D} (r : Rp K ad F v d) : ∀ {vs : List V} {ds : List D} (i : Nat), Rps K ad F vs ds → Rps K ad F (vs.set i v) (ds.set i d)
  | _, _, _, .nil => .nil
  | _, _, 0, .cons _ t =>
    .cons r t
  | _, _, i + 1, .cons q t => .cons q (Rps.set r i t)
theorem Rps.take {F : Hp} : ∀ {vs : List V} {ds : List D} (n : Nat), Rps K ad F vs ds → Rps K ad F (vs.take n) (ds.take n)
  | _, _, 0, _ => .nil
  | _, _, _ + 1, .nil => .nil
  | _, _, n + 1, .cons r t => .cons r (Rps.take n t)
theorem Rps.drop {F : Hp} : ∀ {vs : List V} {ds : List D} (n : Nat), Rps K ad F vs ds → Rps K ad F (vs.drop n) (ds.drop n)
  | _, _, 0, r => r
  | _, _, _ + 1, .nil => .nil
  | _, _, n + 1, .cons _ t => Rps.drop n t
theorem Rps.ints {F : Hp} : ∀ {ns : List Int} {vs : List V}, Rps K ad F vs (ns.map D.int) → vs = ns.map V.int
  | [], _, h => by cases h; rfl
  | n :: ns, _, h => by
    rw [List.map_cons] at h
    cases h with
    | cons h t => cases h; rw [List.map_cons, Rps.ints t]
theorem Rps.strs {F : Hp} : ∀ {ns : List Str} {vs : List V}, Rps K ad F vs (ns.map D.str) → vs = ns.map V.str
  | [], _, h => by cases h; rfl
  | n :: ns, _, h => by
    rw [List.map_cons] at h
    cases h with
    | cons h t => cases h; rw [List.map_cons, Rps.strs t]
variable (K ad) in
def CelR (F H : Hp) (p : Addr) : CC → Prop
  | .lst xs => ∃ vs, H p = some (.lst vs) ∧ Rps K ad F vs xs
  | .obj c kvs => ∃ dx vs, H p = some (.ins (ad c) dx ((kvs.map (·.1)).zip vs)) ∧ Rps K ad F vs (kvs.map (·.2))
  | .dK kvs => ∃ vs, H p = some (.dK ((kvs.map (·.1)).zip vs)) ∧ Rps K ad F vs (kvs.map (·.2))
  | .dT kvs => ∃ vs, H p = some (.dT ((kvs.map (·.1)).zip vs)) ∧ Rps K ad F vs (kvs.map (·.2))
theorem CelR.at {F H : Hp} {p : Addr} : ∀ {c : CC}, CelR K ad F H p c → ∃ o, H p = some o
  | .lst _, ⟨_, h, _⟩ => ⟨_, h⟩
  | .obj _ _, ⟨_, _, h, _⟩ => ⟨_, h⟩
  | .dK _, ⟨_, h, _⟩ => ⟨_, h⟩
  | .dT _, ⟨_, h, _⟩ => ⟨_, h⟩
theorem CelR.keep {F F' H H' : Hp} {p : Addr} (s : Same F F') (e : H' p = H p) : ∀ {c : CC}, CelR K ad F H p c → CelR K ad F' H' p c
  | .lst _, ⟨vs, h, r⟩ => ⟨vs, e.trans h, r.mono s⟩
  | .obj _ _, ⟨dx, vs, h, r⟩ => ⟨dx, vs, e.trans h, r.mono s⟩
  | .dK _, ⟨vs, h, r⟩ => ⟨vs, e.trans h, r.mono s⟩
  | .dT _, ⟨vs, h, r⟩ => ⟨vs, e.trans h, r.mono s⟩
/-- frozen: what stands at p is data from now on -/
theorem CelR.froz {F H : Hp} {p : Addr} {d : D} : ∀ {c : CC}, CelR K ad F H p c → c.froz = some d → F p = none → ∃ o, H p = some o ∧ Same F (upd F p o) ∧ Rp K ad (upd F p o) (.ref p) d
  | .lst xs, ⟨vs, h, r⟩, e, n => by
    cases e
    have s : Same F (upd F p (.lst vs)) := fun b u q => by rw [upd_ne (ne_of_none q n)]; exact q
    exact ⟨_, h, s, .lst upd_same (r.mono s)⟩
  | .obj c kvs, ⟨dx, vs, h, r⟩, e, n => by
    have e : (if kvs.map (·.1) = c.fn then some (D.obj c (kvs.map (·.2))) else none) = some d := e
    split at e
    · rename_i q
      cases e
      have s : Same F (upd F p (.ins (ad c) dx ((kvs.map (·.1)).zip vs))) := fun b u q => by rw [upd_ne (ne_of_none q n)]; exact q
      refine ⟨_, h, s, .obj (dx := dx) (vs := vs) ?_ ?_ (r.mono s)⟩
      · rw [upd_same, q]
      · have := r.len
        rw [← q, List.length_map, this, List.length_map]
    · cases e
  | .dK kvs, ⟨vs, h, r⟩, e, n => by
    cases e
    have s : Same F (upd F p (.dK ((kvs.map (·.1)).zip vs))) := fun b u q => by rw [upd_ne (ne_of_none q n)]; exact q
    refine ⟨_, h, s, .dK upd_same ?_ (r.mono s)⟩
    have := r.len
    rw [List.length_map, this, List.length_map]
  | .dT kvs, ⟨vs, h, r⟩, e, n => by
    cases e
    have s : Same F (upd F p (.dT ((kvs.map (·.1)).zip vs))) := fun b u q => by rw [upd_ne (ne_of_none q n)]; exact q
    refine ⟨_, h, s, .dT upd_same ?_ (r.mono s)⟩
    have := r.len
    rw [List.length_map, this, List.length_map]
/-- the frame: what must stay, what was data at the start, the parameters that may change, the handled exception -/
structure Fr where
  P : Hp
  F0 : Hp
  pa : Nat → Option Addr
/-- the classes' places, and the exception that a suite holds -/
structure CT where
  ad : Cl → Addr
  ea : Addr := 0
  ecl : Value := .none
  ed : Option Addr := none
abbrev cx (ad : Cl → Addr) : CT := { ad := ad }
variable {ct : CT}
variable (K ad) in
def PlR (F : Hp) (c : Cl) : Option D → Option Addr → Prop
  | none, d => d = none
  | some x, d => ∃ a f v, d = some a ∧ c.fn = [f] ∧ F a = some (.xd [(f, v)]) ∧ Rp K ad F v x
theorem PlR.mono {F F' : Hp} (s : Same F F') {c : Cl} {d : Option Addr} : ∀ {pl : Option D}, PlR K ad F c pl d → PlR K ad F' c pl d
  | none, h => h
  | some _, ⟨a, f, v, h1, h2, h3, h4⟩ => ⟨a, f, v, h1, h2, s _ _ h3, h4.mono s⟩
variable (K ct) in
def SlR (fr : Fr) (F H : Hp) (i : Nat) (o : Option V) : Sl → Prop
  | .un => True
  | .dat d => ∃ v, o = some v ∧ Rp K ct.ad F v d
  | .cel k c => ∃ p, o = some (.ref p) ∧ F p = none ∧ fr.P p = none ∧ (k.isPar = true → fr.pa i = some p) ∧ (k.isPar = false → ∀ j, fr.pa j ≠ some p) ∧ CelR K ct.ad F H p c
  | .exn c pl => o = some (.ref ct.ea) ∧ ct.ecl = .ref (ct.ad c) ∧ PlR K ct.ad F c pl ct.ed
variable (K ct) in
structure Rel (fr : Fr) (F H : Hp) (σ : L2.St) (ρ : List Sl) : Prop where
  len : σ.length = ρ.length
  fh : Same F H
  slot : ∀ (i : Nat) (s : Sl), ρ[i]? = some s → ∃ o, σ[i]? = some o ∧ SlR K ct fr F H i o s
  dis : ∀ (i j : Nat) (k : CK) (c : CC) (k' : CK) (c' : CC) (p : Addr), ρ[i]? = some (.cel k c) → ρ[j]? = some (.cel k' c') → σ[i]? = some (some (.ref p)) → σ[j]? = some (some (.ref p)) → i = j
  keep : Same fr.P H
  fro : ∀ b, fr.P b ≠ none → fr.F0 b = none → F b = none
  pcs : ∀ (i : Nat) (p : Addr), fr.pa i = some p → ∃ k c, ρ[i]? = some (.cel k c) ∧ k.isPar = true
variable (K ad) in
/-- a new cell that no slot has -/
def Fresh (fr : Fr) (F H : Hp) (σ : L2.St) (ρ : List Sl) (p : Addr) (c : CC) : Prop :=
  F p = none ∧ fr.P p = none ∧ (∀ j, fr.pa j ≠ some p) ∧ CelR K ad F H p c ∧ ∀ (i : Nat) (k : CK) (c' : CC), ρ[i]? = some (.cel k c') → σ[i]? ≠ some (some (.ref p))
section
variable {fr : Fr} {F F' H H' : Hp} {σ : L2.St} {ρ : List Sl}
/-- the heaps grow -/
theorem Rel.grow (S : Rel K ct fr F H σ ρ) (f : Same F F') (h : Same H H') (fh : Same F' H') (n : ∀ b, H b ≠ none → F b = none → F' b = none) : Rel K ct fr F' H' σ ρ := by
  refine ⟨S.len, fh, fun i s e => ?_, S.dis, S.keep.trans h, fun b hb h0 => n b (fun z => ?_) (S.fro b hb h0), S.pcs⟩
  · obtain ⟨o, e1, r⟩ := S.slot i s e
    refine ⟨o, e1, ?_⟩
    cases s with
    | un => trivial
    | dat d => obtain ⟨v, e2, r⟩ := r; exact ⟨v, e2, r.mono f⟩
    | cel k c =>
      obtain ⟨p, e2, e3, e4, e5, e6, r⟩ := r
      obtain ⟨o', ho⟩ := r.at
      refine ⟨p, e2, n p (by rw [ho]; simp) e3, e4, e5, e6, r.keep f ?_⟩
      rw [h _ _ ho, ho]
    | exn c pl => exact ⟨r.1, r.2.1, r.2.2.mono f⟩
  · cases q : fr.P b with
    | none => exact hb q
    | some o => rw [S.keep b o q] at z; cases z
theorem Fresh.grow {p : Addr} {c : CC} (S : Fresh K ad fr F H σ ρ p c) (f : Same F F') (h : Same H H') (n : ∀ b, H b ≠ none → F b = none → F' b = none) : Fresh K ad fr F' H' σ ρ p c := by
  obtain ⟨h1, h2, h3, h4, h5⟩ := S
  obtain ⟨o', ho⟩ := h4.at
  exact ⟨n p (by rw [ho]; simp) h1, h2, h3, h4.keep f (by rw [h _ _ ho, ho]), h5⟩
theorem Rel.nn (S : Rel K ct fr F H σ ρ) {p : Addr} (h : H p = none) : F p = none := by
  cases q : F p with
  | none => rfl
  | some o => rw [S.fh p o q] at h; cases h
theorem Rel.np (S : Rel K ct fr F H σ ρ) {p : Addr} (h : H p = none) : fr.P p = none := by
  cases q : fr.P p with
  | none => rfl
  | some o => rw [S.keep p o q] at h; cases h
theorem same_up {H : Hp} {p : Addr} {o : HO} (h : H p = none) : Same H (upd H p o) := fun b u e => by
  rw [upd_ne (ne_of_none e h)]
  exact e
/-- a new object, data at once -/
theorem Rel.newD (S : Rel K ct fr F H σ ρ) {p : Addr} {o : HO} (h : H p = none) : Rel K ct fr (upd F p o) (upd H p o) σ ρ := by
  refine S.grow (same_up (S.nn h)) (same_up h) (fun b u e => ?_) fun b hb e => ?_
  · by_cases q : b = p
    · subst q; rw [upd_same] at e; rw [upd_same]; exact e
    · rw [upd_ne q] at e; rw [upd_ne q]; exact S.fh _ _ e
  · rw [upd_ne (fun q => hb (by rw [q]; exact h))]
    exact e
/-- a new object, not yet data -/
theorem Rel.newC (S : Rel K ct fr F H σ ρ) {p : Addr} {o : HO} (h : H p = none) : Rel K ct fr F (upd H p o) σ ρ :=
  S.grow (Same.refl _) (same_up h) (S.fh.trans (same_up h)) fun _ _ e => e
theorem Rel.cell_at (S : Rel K ct fr F H σ ρ) {i : Nat} {k : CK} {c : CC} (e : ρ[i]? = some (.cel k c)) : ∃ p o, σ[i]? = some (some (.ref p)) ∧ H p = some o := by
  obtain ⟨o, e1, p, e2, _, _, _, _, r⟩ := S.slot i _ e
  obtain ⟨o', ho⟩ := r.at
  exact ⟨p, o', by rw [e1, e2], ho⟩
theorem Rel.fresh (S : Rel K ct fr F H σ ρ) {p : Addr} {o : HO} {c : CC} (h : H p = none) (r : CelR K ct.ad F (upd H p o) p c) : Fresh K ct.ad fr F (upd H p o) σ ρ p c := by
  refine ⟨S.nn h, S.np h, fun j e => ?_, r, fun i k c' e1 e2 => ?_⟩
  · obtain ⟨k, c, e1, hk⟩ := S.pcs j p e
    obtain ⟨o1, _, p', rfl, _, _, e5, e6, r'⟩ := S.slot j _ e1
    obtain ⟨o', ho⟩ := r'.at
    have z := e5 hk
    rw [e] at z
    cases z
    rw [h] at ho
    cases ho
  · obtain ⟨p', o', e3, ho⟩ := S.cell_at e1
    rw [e3] at e2
    cases e2
    rw [h] at ho
    cases ho
/-- a slot gets data -/
theorem Rel.setD (S : Rel K ct fr F H σ ρ) {i : Nat} {v : V} {d : D} (r : Rp K ct.ad F v d) (np : fr.pa i = none) : Rel K ct fr F H (σ.set i (some v)) (ρ.set i (.dat d)) := by
  have dn : ∀ {j : Nat} {k : CK} {c : CC}, (ρ.set i (.dat d))[j]? = some (.cel k c) → j ≠ i ∧ ρ[j]? = some (.cel k c) := fun {j k c} e => by
    by_cases q : i = j
    · subst q
      by_cases l : i < ρ.length
      · rw [List.getElem?_set_self l] at e; cases e
      · rw [List.getElem?_eq_none (by simp; omega)] at e; cases e
    · rw [List.getElem?_set_ne q] at e; exact ⟨fun z => q z.symm, e⟩
  refine ⟨by simp [S.len], S.fh, fun j s e => ?_, fun a b k c k' c' p e1 e2 e3 e4 => ?_, S.keep, S.fro, fun j p e => ?_⟩
  · by_cases q : i = j
    · subst q
      by_cases l : i < ρ.length
      · rw [List.getElem?_set_self l] at e
        cases e
        exact ⟨some v, by rw [List.getElem?_set_self (by rw [S.len]; exact l)], v, rfl, r⟩
      · rw [List.getElem?_eq_none (by simp; omega)] at e; cases e
    · rw [List.getElem?_set_ne q] at e
      obtain ⟨o, h1, h2⟩ := S.slot j s e
      exact ⟨o, by rw [List.getElem?_set_ne q]; exact h1, h2⟩
  · obtain ⟨n1, f1⟩ := dn e1
    obtain ⟨n2, f2⟩ := dn e2
    rw [List.getElem?_set_ne (Ne.symm n1)] at e3
    rw [List.getElem?_set_ne (Ne.symm n2)] at e4
    exact S.dis a b k c k' c' p f1 f2 e3 e4
  · obtain ⟨k, c, h1, h2⟩ := S.pcs j p e
    refine ⟨k, c, ?_, h2⟩
    rw [List.getElem?_set_ne (fun q => by rw [q, e] at np; cases np)]
    exact h1
/-- a slot is forgotten, what stands there stays -/
theorem Rel.setU (S : Rel K ct fr F H σ ρ) {i : Nat} (np : fr.pa i = none) {w : Option V} : Rel K ct fr F H (σ.set i w) (ρ.set i .un) := by
  have dn : ∀ {j : Nat} {k : CK} {c : CC}, (ρ.set i .un)[j]? = some (.cel k c) → j ≠ i ∧ ρ[j]? = some (.cel k c) := fun {j k c} e => by
    by_cases q : i = j
    · subst q
      by_cases l : i < ρ.length
      · rw [List.getElem?_set_self l] at e; cases e
      · rw [List.getElem?_eq_none (by simp; omega)] at e; cases e
    · rw [List.getElem?_set_ne q] at e; exact ⟨fun z => q z.symm, e⟩
  refine ⟨by simp [S.len], S.fh, fun j s e => ?_, fun a b k c k' c' p e1 e2 e3 e4 => ?_, S.keep, S.fro, fun j p e => ?_⟩
  · by_cases q : i = j
    · subst q
      by_cases l : i < ρ.length
      · rw [List.getElem?_set_self l] at e
        cases e
        exact ⟨w, by rw [List.getElem?_set_self (by rw [S.len]; exact l)], trivial⟩
      · rw [List.getElem?_eq_none (by simp; omega)] at e; cases e
    · rw [List.getElem?_set_ne q] at e
      obtain ⟨o, h1, h2⟩ := S.slot j s e
      exact ⟨o, by rw [List.getElem?_set_ne q]; exact h1, h2⟩
  · obtain ⟨n1, f1⟩ := dn e1
    obtain ⟨n2, f2⟩ := dn e2
    rw [List.getElem?_set_ne (Ne.symm n1)] at e3
    rw [List.getElem?_set_ne (Ne.symm n2)] at e4
    exact S.dis a b k c k' c' p f1 f2 e3 e4
  · obtain ⟨k, c, h1, h2⟩ := S.pcs j p e
    refine ⟨k, c, ?_, h2⟩
    rw [List.getElem?_set_ne (fun q => by rw [q, e] at np; cases np)]
    exact h1
theorem set_id {α : Type} {xs : List α} {i : Nat} {x : α} (h : xs[i]? = some x) : xs.set i x = xs := by
  (refine List.ext_getElem? fun j => ?_)
  by_cases q : i = j
  · subst q
    rw [List.getElem?_set_self (List.getElem?_eq_some_iff.mp h).1, h]
  · rw [List.getElem?_set_ne q]
/-- a slot is forgotten -/
theorem Rel.unR (S : Rel K ct fr F H σ ρ) {i : Nat} (np : fr.pa i = none) : Rel K ct fr F H σ (ρ.set i .un) := by
  by_cases l : i < σ.length
  · have e : σ.set i σ[i] = σ := set_id (List.getElem?_eq_getElem l)
    have := S.setU (w := σ[i]) np
    rw [e] at this
    exact this
  · rw [List.set_eq_of_length_le (by rw [← S.len]; omega)]
    exact S
/-- a slot gets a cell that nobody has -/
theorem Rel.setC (S : Rel K ct fr F H σ ρ) {i : Nat} {p : Addr} {c : CC} (r : Fresh K ct.ad fr F H σ ρ p c) (np : fr.pa i = none) : Rel K ct fr F H (σ.set i (some (.ref p))) (ρ.set i (.cel .own c)) := by
  obtain ⟨r1, r2, r3, r4, r5⟩ := r
  have dn : ∀ {j : Nat} {k : CK} {c' : CC}, (ρ.set i (.cel .own c))[j]? = some (.cel k c') → (j = i) ∨ (j ≠ i ∧ ρ[j]? = some (.cel k c')) := fun {j k c'} e => by
    by_cases q : i = j
    · exact .inl q.symm
    · rw [List.getElem?_set_ne q] at e; exact .inr ⟨fun z => q z.symm, e⟩
  refine ⟨by simp [S.len], S.fh, fun j s e => ?_, fun a b k d k' d' q e1 e2 e3 e4 => ?_, S.keep, S.fro, fun j p e => ?_⟩
  · by_cases q : i = j
    · subst q
      by_cases l : i < ρ.length
      · rw [List.getElem?_set_self l] at e
        cases e
        exact ⟨_, by rw [List.getElem?_set_self (by rw [S.len]; exact l)], p, rfl, r1, r2, (fun z => by cases z), (fun _ => r3), r4⟩
      · rw [List.getElem?_eq_none (by simp; omega)] at e; cases e
    · rw [List.getElem?_set_ne q] at e
      obtain ⟨o, h1, h2⟩ := S.slot j s e
      exact ⟨o, by rw [List.getElem?_set_ne q]; exact h1, h2⟩
  · have at_i : ∀ {z : Option V}, (σ.set i (some (.ref p)))[i]? = some z → z = some (.ref p) := fun {z} h => by
      by_cases l : i < σ.length
      · rw [List.getElem?_set_self l] at h; cases h; rfl
      · rw [List.getElem?_eq_none (by simp; omega)] at h; cases h
    rcases dn e1 with z1 | ⟨n1, f1⟩
    · rcases dn e2 with z2 | ⟨n2, f2⟩
      · rw [z1, z2]
      · subst z1
        have := at_i e3
        cases this
        rw [List.getElem?_set_ne (Ne.symm n2)] at e4
        exact absurd e4 (r5 _ _ _ f2)
    · rcases dn e2 with z2 | ⟨n2, f2⟩
      · subst z2
        have := at_i e4
        cases this
        rw [List.getElem?_set_ne (Ne.symm n1)] at e3
        exact absurd e3 (r5 _ _ _ f1)
      · rw [List.getElem?_set_ne (Ne.symm n1)] at e3
        rw [List.getElem?_set_ne (Ne.symm n2)] at e4
        exact S.dis a b k d k' d' q f1 f2 e3 e4
  · obtain ⟨k, c, h1, h2⟩ := S.pcs j p e
    refine ⟨k, c, ?_, h2⟩
    rw [List.getElem?_set_ne (fun q => by rw [q, e] at np; cases np)]
    exact h1
/-- a cell's content changes -/
theorem Rel.updC (S : Rel K ct fr F H σ ρ) {i : Nat} {p : Addr} {k k' : CK} {c c' : CC} {o : HO} (e : ρ[i]? = some (.cel k c)) (es : σ[i]? = some (some (.ref p))) (hk : k'.isPar = k.isPar) (r : CelR K ct.ad F (upd H p o) p c') : Rel K ct fr F (upd H p o) σ (ρ.set i (.cel k' c')) := by
  obtain ⟨o1, q1, p', q2, q3, q4, q5, q6, q7⟩ := S.slot i _ e
  rw [q1] at es
  cases es
  cases q2
  have il := (List.getElem?_eq_some_iff.mp e).1
  have fp : ∀ b u, F b = some u → b ≠ p := fun b u z w => by rw [w, q3] at z; cases z
  have dn : ∀ {j : Nat} {k1 : CK} {c1 : CC}, (ρ.set i (.cel k' c'))[j]? = some (.cel k1 c1) → ∃ k2 c2, ρ[j]? = some (.cel k2 c2) := fun {j k1 c1} z => by
    by_cases q : i = j
    · subst q; exact ⟨k, c, e⟩
    · rw [List.getElem?_set_ne q] at z; exact ⟨_, _, z⟩
  refine ⟨by simp [S.len], fun b u z => ?_, fun j s z => ?_, fun a b k1 d k2 d' q e1 e2 e3 e4 => ?_, fun b u z => ?_, S.fro, fun j q z => ?_⟩
  · rw [upd_ne (fp b u z)]; exact S.fh _ _ z
  · by_cases q : i = j
    · subst q
      rw [List.getElem?_set_self il] at z
      cases z
      exact ⟨_, q1, p, rfl, q3, q4, (fun y => q5 (hk ▸ y)), (fun y => q6 (hk ▸ y)), r⟩
    · rw [List.getElem?_set_ne q] at z
      obtain ⟨u, h1, h2⟩ := S.slot j s z
      refine ⟨u, h1, ?_⟩
      cases s with
      | un => trivial
      | dat d => exact h2
      | cel k1 c1 =>
        obtain ⟨p1, g1, g2, g3, g4, g5, g6⟩ := h2
        subst g1
        refine ⟨p1, rfl, g2, g3, g4, g5, g6.keep (Same.refl _) ?_⟩
        rw [upd_ne]
        intro w
        subst w
        exact q (S.dis i j k c k1 c1 p1 e z q1 h1)
      | exn _ _ => exact h2
  · obtain ⟨_, _, f1⟩ := dn e1
    obtain ⟨_, _, f2⟩ := dn e2
    exact S.dis a b _ _ _ _ q f1 f2 e3 e4
  · rw [upd_ne (fun w => by rw [w, q4] at z; cases z)]; exact S.keep _ _ z
  · obtain ⟨k1, c1, h1, h2⟩ := S.pcs j q z
    by_cases w : i = j
    · subst w
      rw [e] at h1
      cases h1
      exact ⟨k', c', by rw [List.getElem?_set_self il], by rw [hk]; exact h2⟩
    · exact ⟨k1, c1, by rw [List.getElem?_set_ne w]; exact h1, h2⟩
/-- a cell becomes data -/
theorem Rel.frz (S : Rel K ct fr F H σ ρ) {i : Nat} {k : CK} {c : CC} {d : D} (e : ρ[i]? = some (.cel k c)) (hk : k.isPar = false) (hf : c.froz = some d) :
    ∃ p F', σ[i]? = some (some (.ref p)) ∧ Same F F' ∧ Rp K ct.ad F' (.ref p) d ∧ Rel K ct fr F' H σ (ρ.set i (.dat d)) := by
  obtain ⟨o1, q1, p, q2, q3, q4, q5, q6, q7⟩ := S.slot i _ e
  subst q2
  obtain ⟨o, ho, sm, rp⟩ := q7.froz hf q3
  have il := (List.getElem?_eq_some_iff.mp e).1
  have np : fr.pa i = none := by
    cases z : fr.pa i with
    | none => rfl
    | some q =>
      obtain ⟨k1, c1, h1, h2⟩ := S.pcs i q z
      rw [e] at h1
      cases h1
      rw [hk] at h2
      cases h2
  have dn : ∀ {j : Nat} {k1 : CK} {c1 : CC}, (ρ.set i (.dat d))[j]? = some (.cel k1 c1) → j ≠ i ∧ ρ[j]? = some (.cel k1 c1) := fun {j k1 c1} z => by
    by_cases q : i = j
    · subst q; rw [List.getElem?_set_self il] at z; cases z
    · rw [List.getElem?_set_ne q] at z; exact ⟨fun w => q w.symm, z⟩
  refine ⟨p, _, q1, sm, rp, by simp [S.len], fun b u z => ?_, fun j s z => ?_, fun a b k1 d1 k2 d2 q e1 e2 e3 e4 => ?_, S.keep, fun b hb h0 => ?_, fun j q z => ?_⟩
  · by_cases w : b = p
    · subst w; rw [upd_same] at z; cases z; exact ho
    · rw [upd_ne w] at z; exact S.fh _ _ z
  · by_cases q : i = j
    · subst q
      rw [List.getElem?_set_self il] at z
      cases z
      exact ⟨_, q1, _, rfl, rp⟩
    · rw [List.getElem?_set_ne q] at z
      obtain ⟨u, h1, h2⟩ := S.slot j s z
      refine ⟨u, h1, ?_⟩
      cases s with
      | un => trivial
      | dat d => obtain ⟨v, g1, g2⟩ := h2; exact ⟨v, g1, g2.mono sm⟩
      | cel k1 c1 =>
        obtain ⟨p1, g1, g2, g3, g4, g5, g6⟩ := h2
        subst g1
        refine ⟨p1, rfl, ?_, g3, g4, g5, g6.keep sm rfl⟩
        rw [upd_ne]
        · exact g2
        · intro w
          subst w
          exact q (S.dis i j k c k1 c1 p1 e z q1 h1)
      | exn _ _ => exact ⟨h2.1, h2.2.1, h2.2.2.mono sm⟩
  · obtain ⟨_, f1⟩ := dn e1
    obtain ⟨_, f2⟩ := dn e2
    exact S.dis a b _ _ _ _ q f1 f2 e3 e4
  · rw [upd_ne (fun w => hb (by rw [w]; exact q4))]
    exact S.fro b hb h0
  · obtain ⟨k1, c1, h1, h2⟩ := S.pcs j q z
    exact ⟨k1, c1, by rw [List.getElem?_set_ne (fun w => by rw [w, z] at np; cases np)]; exact h1, h2⟩
/-- a new cell becomes data -/
theorem Fresh.frz {p : Addr} {c : CC} {d : D} (r : Fresh K ct.ad fr F H σ ρ p c) (S : Rel K ct fr F H σ ρ) (hf : c.froz = some d) : ∃ F', Same F F' ∧ Rp K ct.ad F' (.ref p) d ∧ Rel K ct fr F' H σ ρ := by
  obtain ⟨r1, r2, r3, r4, r5⟩ := r
  obtain ⟨o, ho, sm, rp⟩ := r4.froz hf r1
  refine ⟨_, sm, rp, S.len, fun b u z => ?_, fun j s z => ?_, S.dis, S.keep, fun b hb h0 => ?_, S.pcs⟩
  · by_cases w : b = p
    · subst w; rw [upd_same] at z; cases z; exact ho
    · rw [upd_ne w] at z; exact S.fh _ _ z
  · obtain ⟨u, h1, h2⟩ := S.slot j s z
    refine ⟨u, h1, ?_⟩
    cases s with
    | un => trivial
    | dat d => obtain ⟨v, g1, g2⟩ := h2; exact ⟨v, g1, g2.mono sm⟩
    | cel k1 c1 =>
      obtain ⟨p1, g1, g2, g3, g4, g5, g6⟩ := h2
      subst g1
      refine ⟨p1, rfl, ?_, g3, g4, g5, g6.keep sm rfl⟩
      rw [upd_ne]
      · exact g2
      · intro w
        subst w
        exact r5 _ _ _ z h1
    | exn _ _ => exact ⟨h2.1, h2.2.1, h2.2.2.mono sm⟩
  · rw [upd_ne (fun w => hb (by rw [w]; exact r2))]
    exact S.fro b hb h0
end
end PL
end
section
namespace PL
open PySem PySem.Spec PyProof.Rows L2
variable {K : PySem.W.Frag} {ad : Cl → Addr} {ct : CT}
abbrev Rel3 (β α : Type) := Fr → Hp → Hp → L2.St → List Sl → β → α → Prop
variable (K ct) in
def Tat {β α : Type} (R : Rel3 β α) (W : WX) (fr : Fr) (F : Hp) (ρ : List Sl) (m : M α) (σ : L2.St) (Q : β → Hp → Prop) : Prop :=
  ∃ r ρ', m ρ = some (r, ρ') ∧ match r with
    | .ok a => ∀ v F' H', Same F F' → Rel K ct fr F' H' σ ρ' → R fr F' H' σ ρ' v a → Q v H'
    | .er c pl => ∀ d F' H', Same F F' → Rel K ct fr F' H' σ ρ' → PlR K ct.ad F' c pl d → W (.ref (ct.ad c)) d σ H'
variable (K ct) in
def T {β α : Type} (R : Rel3 β α) (W : WX) (m : M α) : L2.St → Hp → (β → Hp → Prop) → Prop := fun σ H Q => ∃ fr F ρ, Rel K ct fr F H σ ρ ∧ Tat K ct R W fr F ρ m σ Q
variable (K ad) in
def RD : Rel3 V D := fun _ F _ _ _ v d => Rp K ad F v d
variable (K ad) in
def RV : Rel3 V Rv := fun fr F H σ ρ v r => match r with
  | .d d => Rp K ad F v d
  | .c c => ∃ p, v = .ref p ∧ Fresh K ad fr F H σ ρ p c
def RB : Rel3 Bool Bool := fun _ _ _ _ _ b a => b = a
/-- an argument: data, or a cell that stands in slot j -/
inductive Ar | d (d : D) | c (j : Nat)
variable (K ad) in
def RA1 (F : Hp) (σ : L2.St) (v : V) : Ar → Prop
  | .d d => Rp K ad F v d
  | .c j => σ[j]? = some (some v)
variable (K ad) in
inductive RAs (F : Hp) (σ : L2.St) : List V → List Ar → Prop
  | nil : RAs F σ [] []
  | cons {v : V} {a : Ar} {vs : List V} {as : List Ar} : RA1 K ad F σ v a → RAs F σ vs as → RAs F σ (v :: vs) (a :: as)
variable (K ad) in
def RA : Rel3 (List V) (List Ar) := fun _ F _ σ _ vs as => RAs K ad F σ vs as
variable (K ad) in
def RDs : Rel3 (List V) (List D) := fun _ F _ _ _ vs ds => Rps K ad F vs ds
variable {fr : Fr} {F F' H H' : Hp} {σ : L2.St} {ρ : List Sl} {W : WX}
section
variable {α β γ δ : Type} {R : Rel3 β α} {R' : Rel3 δ γ} {m : M α} {k : α → M γ} {Q : δ → Hp → Prop} {Q1 : β → Hp → Prop}
theorem Tat.bndT (h : Tat K ct R' W fr F ρ (PL.bnd m k) σ Q)
    (hq : ∀ F1 H1 ρ1 v a, Same F F1 → Rel K ct fr F1 H1 σ ρ1 → R fr F1 H1 σ ρ1 v a → Tat K ct R' W fr F1 ρ1 (k a) σ Q → Q1 v H1) : Tat K ct R W fr F ρ m σ Q1 := by
  obtain ⟨r, ρ', e, q⟩ := h
  unfold PL.bnd at e
  cases em : m ρ with
  | none => rw [em] at e; cases e
  | some x =>
    obtain ⟨r1, ρ1⟩ := x
    rw [em] at e
    cases r1 with
    | ok a =>
      refine ⟨.ok a, ρ1, em, fun v F1 H1 s1 S1 r1 => hq F1 H1 ρ1 v a s1 S1 r1 ⟨r, ρ', e, ?_⟩⟩
      cases r with
      | ok z => exact fun v F' H' s' => q v F' H' (s1.trans s')
      | er c pl => exact fun d F' H' s' => q d F' H' (s1.trans s')
    | er c pl =>
      refine ⟨.er c pl, ρ1, em, ?_⟩
      have e : (some (Ex.er c pl, ρ1) : Option (Ex γ × List Sl)) = some (r, ρ') := e
      cases e
      exact q
theorem Tat.bnd (h : Tat K ct R' W fr F ρ (PL.bnd m k) σ Q) (S : Rel K ct fr F H σ ρ)
    (hq : ∀ F1 H1 ρ1 v a, Same F F1 → Rel K ct fr F1 H1 σ ρ1 → R fr F1 H1 σ ρ1 v a → Tat K ct R' W fr F1 ρ1 (k a) σ Q → Q1 v H1) : T K ct R W m σ H Q1 := ⟨fr, F, ρ, S, h.bndT hq⟩
theorem Tat.ok {a : γ} (h : Tat K ct R' W fr F ρ (pur a) σ Q) : ∀ v F' H', Same F F' → Rel K ct fr F' H' σ ρ → R' fr F' H' σ ρ v a → Q v H' := by
  obtain ⟨r, ρ', e, q⟩ := h
  cases e
  exact q
theorem Tat.opt {o : Option γ} (h : Tat K ct R' W fr F ρ (PL.opt o) σ Q) : ∃ a, o = some a ∧ ∀ v F' H', Same F F' → Rel K ct fr F' H' σ ρ → R' fr F' H' σ ρ v a → Q v H' := by
  cases o with
  | none => obtain ⟨r, ρ', e, q⟩ := h; cases e
  | some a => exact ⟨a, rfl, h.ok⟩
theorem Tat.to (h : Tat K ct R W fr F ρ m σ Q1) (S : Rel K ct fr F H σ ρ) : T K ct R W m σ H Q1 := ⟨fr, F, ρ, S, h⟩
theorem Tat.mono (h : Tat K ct R W fr F ρ m σ Q1) (s : Same F F') : Tat K ct R W fr F' ρ m σ Q1 := by
  obtain ⟨r, ρ', e, q⟩ := h
  refine ⟨r, ρ', e, ?_⟩
  cases r with
  | ok z => exact fun v F' H' s' => q v F' H' (s.trans s')
  | er c pl => exact fun d F' H' s' => q d F' H' (s.trans s')
end
/-- the value as data: a new cell is frozen -/
def dat (m : Ev) : M D := bnd m fun r => match r with
  | .d d => pur d
  | .c c => opt c.froz
theorem Tat.datT {δ γ : Type} {R' : Rel3 δ γ} {m : Ev} {k : D → M γ} {Q : δ → Hp → Prop} {Q1 : V → Hp → Prop} (h : Tat K ct R' W fr F ρ (PL.bnd (PL.dat m) k) σ Q)
    (hq : ∀ F1 H1 ρ1 v d, Same F F1 → Rel K ct fr F1 H1 σ ρ1 → Rp K ct.ad F1 v d → Tat K ct R' W fr F1 ρ1 (k d) σ Q → Q1 v H1) : Tat K ct (RV K ct.ad) W fr F ρ m σ Q1 := by
  have e : PL.bnd (PL.dat m) k = PL.bnd m fun r => PL.bnd (match r with | Rv.d d => pur d | Rv.c c => PL.opt c.froz) k := by
    funext ρ
    unfold PL.dat PL.bnd
    cases em : m ρ with
    | none => rfl
    | some x =>
      obtain ⟨r1, ρ1⟩ := x
      cases r1 with
      | ok a => cases a <;> rfl
      | er c pl => rfl
  rw [e] at h
  refine h.bndT fun F1 H1 ρ1 v r s1 S1 r1 q => ?_
  cases r with
  | d d => exact hq F1 H1 ρ1 v d s1 S1 r1 (by obtain ⟨r, ρ', e, q⟩ := q; exact ⟨r, ρ', e, q⟩)
  | c c =>
    obtain ⟨p, ev, fp⟩ := r1
    subst ev
    cases ef : c.froz with
    | none =>
      obtain ⟨r, ρ', e, q⟩ := q
      have e : PL.bnd (PL.opt c.froz) k ρ1 = some (r, ρ') := e
      rw [ef] at e
      cases e
    | some d =>
      obtain ⟨F2, s2, rp, S2⟩ := fp.frz S1 ef
      refine hq F2 H1 ρ1 _ d (s1.trans s2) S2 rp ?_
      have q2 := q.mono s2
      obtain ⟨r, ρ', e, q⟩ := q2
      have e : PL.bnd (PL.opt c.froz) k ρ1 = some (r, ρ') := e
      rw [ef] at e
      exact ⟨r, ρ', e, q⟩
theorem Tat.dat {δ γ : Type} {R' : Rel3 δ γ} {m : Ev} {k : D → M γ} {Q : δ → Hp → Prop} {Q1 : V → Hp → Prop} (h : Tat K ct R' W fr F ρ (PL.bnd (PL.dat m) k) σ Q) (S : Rel K ct fr F H σ ρ)
    (hq : ∀ F1 H1 ρ1 v d, Same F F1 → Rel K ct fr F1 H1 σ ρ1 → Rp K ct.ad F1 v d → Tat K ct R' W fr F1 ρ1 (k d) σ Q → Q1 v H1) : T K ct (RV K ct.ad) W m σ H Q1 := ⟨fr, F, ρ, S, h.datT hq⟩
/-! the derivations weakened -/
section
variable {X : Cx}
theorem _root_.L2.PE.imp {e : Expr} {t t' : TE} (h : PE X e t) (w : ∀ σ H Q, t' σ H Q → t σ H Q) : PE X e t' := ⟨fun pins s σ H Q I q => h.run pins s σ H Q I (w σ H Q q)⟩
theorem _root_.L2.PT.imp {e : Expr} {t t' : TT} (h : PT X e t) (w : ∀ σ H Q, t' σ H Q → t σ H Q) : PT X e t' := ⟨fun pins s σ H Q I q => h.run pins s σ H Q I (w σ H Q q)⟩
theorem _root_.L2.PW.imp {e : Expr} {t t' : TT} (h : PW X e t) (w : ∀ σ H Q, t' σ H Q → t σ H Q) : PW X e t' := ⟨fun wh pins s σ H Q I q => h.run wh pins s σ H Q I (w σ H Q q)⟩
theorem _root_.L2.PTs.imp {es : List Expr} {t t' : TT} (h : PTs X es t) (w : ∀ σ H Q, t' σ H Q → t σ H Q) : PTs X es t' := ⟨fun pins s σ H Q I q => h.run pins s σ H Q I (w σ H Q q)⟩
theorem _root_.L2.PA.imp {es : List Expr} {t t' : TA} (h : PA X es t) (w : ∀ σ H Q, t' σ H Q → t σ H Q) : PA X es t' := ⟨fun pos pins s σ H Q I q => h.run pos pins s σ H Q I (w σ H Q q)⟩
theorem _root_.L2.PS.imp {st : Stmt} {t t' : TS} (h : PS X st t) (w : ∀ D σ H, t' D σ H → t D σ H) : PS X st t' := ⟨fun pins s σ H D I q => h.run pins s σ H D I (w D σ H q)⟩
theorem _root_.L2.PSs.imp {st : List Stmt} {t t' : TS} (h : PSs X st t) (w : ∀ D σ H, t' D σ H → t D σ H) : PSs X st t' := ⟨fun pins s σ H D I q => h.run pins s σ H D I (w D σ H q)⟩
theorem _root_.L2.PG.imp {e : Expr} {t t' : TG} (h : PG X e t) (w : ∀ v σ H Q, t' v σ H Q → t v σ H Q) : PG X e t' := ⟨fun pins s σ H v u Q I r q => h.run pins s σ H v u Q I r (w v σ H Q q)⟩
theorem _root_.L2.PO.imp {e : Option Expr} {t t' : TO} (h : PO X e t) (w : ∀ σ H Q, t' σ H Q → t σ H Q) : PO X e t' := ⟨fun pins s σ H Q I q => h.run pins s σ H Q I (w σ H Q q)⟩
theorem _root_.L2.PI.imp {tg e : Expr} {t t' : TI} (h : PI X tg e t) (w : ∀ σ H Q, t' σ H Q → t σ H Q) : PI X tg e t' := ⟨fun pins s σ H Q I q => h.run pins s σ H Q I (w σ H Q q)⟩
end
/-! ### expressions -/
variable (K ct) in
abbrev TP (W : WX) (m : Ev) : TE := T K ct (RV K ct.ad) W m
variable (K ct) in
abbrev TB (W : WX) (m : M Bool) : TT := T K ct RB W m
variable (K ct) in
abbrev TAr (W : WX) (m : M (List Ar)) : TA := T K ct (RA K ct.ad) W m
def vD (d : D) : Ev := pur (.d d)
/-- a name -/
def evV (i : Nat) : Ev := fun ρ => match ρ[i]? with
  | some (.dat d) => some (.ok (.d d), ρ)
  | _ => none
/-- .. that is data from now on -/
def evF (i : Nat) : Ev := fun ρ => match ρ[i]? with
  | some (.dat d) => some (.ok (.d d), ρ)
  | some (.cel .own c) => (c.froz).map fun d => (.ok (.d d), ρ.set i (.dat d))
  | _ => none
/-- .. that hands over its cell -/
def evM (i : Nat) : Ev := fun ρ => match ρ[i]? with
  | some (.dat d) => some (.ok (.d d), ρ)
  | some (.cel .own c) => some (.ok (.c c), ρ.set i .un)
  | _ => none
section
variable {X : Cx} {a b c : Expr} {fa fb fc : Ev} {pos : Pos}
theorem w_v {i : Nat} {Q : VK} (h : TP K ct W (evV i) σ H Q) : tVar i σ H Q := by
  obtain ⟨fr, F, ρ, S, r, ρ', e, q⟩ := h
  unfold evV at e
  split at e
  · rename_i d hd
    cases e
    obtain ⟨o, h1, v, h2, h3⟩ := S.slot i _ hd
    subst h2
    exact ⟨v, h1, q v F H (Same.refl _) S h3⟩
  · cases e
theorem Rel.own (S : Rel K ct fr F H σ ρ) {i : Nat} {k : CK} {c : CC} (e : ρ[i]? = some (.cel k c)) (hk : k.isPar = false) : fr.pa i = none := by
  cases z : fr.pa i with
  | none => rfl
  | some q =>
    obtain ⟨k1, c1, h1, h2⟩ := S.pcs i q z
    rw [e] at h1
    cases h1
    rw [hk] at h2
    cases h2
theorem w_m {i : Nat} {Q : VK} (h : TP K ct W (evM i) σ H Q) : tVar i σ H Q := by
  obtain ⟨fr, F, ρ, S, r, ρ', e, q⟩ := h
  unfold evM at e
  split at e
  · rename_i d hd
    cases e
    obtain ⟨o, h1, v, h2, h3⟩ := S.slot i _ hd
    subst h2
    exact ⟨v, h1, q v F H (Same.refl _) S h3⟩
  · rename_i c hc
    cases e
    have np := S.own hc rfl
    obtain ⟨o, h1, p, h2, h3, h4, h5, h6, h7⟩ := S.slot i _ hc
    subst h2
    refine ⟨_, h1, q _ F H (Same.refl _) (S.unR np) ⟨p, rfl, h3, h4, h6 rfl, h7, fun j k c' z1 z2 => ?_⟩⟩
    by_cases w : i = j
    · subst w
      rw [List.getElem?_set_self (List.getElem?_eq_some_iff.mp hc).1] at z1
      cases z1
    · rw [List.getElem?_set_ne w] at z1
      exact w (S.dis i j _ _ _ _ p hc z1 h1 z2)
  · cases e
theorem pp_v (i : Nat) {x : Str} (h : PE X (.Name x pos) (tVar i)) : PE X (.Name x pos) (TP K ct W (evV i)) := h.imp fun _ _ _ => w_v
theorem pp_m (i : Nat) {x : Str} (h : PE X (.Name x pos) (tVar i)) : PE X (.Name x pos) (TP K ct W (evM i)) := h.imp fun _ _ _ => w_m
/-- a value that needs no heap -/
def D.toV : D → Option V
  | .non => some .non | .bl b => some (.bl b) | .int i => some (.int i) | .str s => some (.str s) | _ => none
theorem D.toV_rp {d : D} {v : V} (h : d.toV = some v) : Rp K ct.ad F v d := by
  cases d <;> cases h <;> constructor
theorem w_c {d : D} {v : V} {Q : VK} (hd : d.toV = some v) (h : TP K ct W (vD d) σ H Q) : tC v σ H Q := by
  obtain ⟨fr, F, ρ, S, h⟩ := h
  exact h.ok v F H (Same.refl _) S (D.toV_rp hd)
theorem pp_c {e : Expr} {d : D} {v : V} (h : PE X e (tC v)) (hd : d.toV = some v := by rfl) : PE X e (TP K ct W (vD d)) := h.imp fun _ _ _ => w_c hd
/-- a two-place operation on data -/
def ev2 (g : D → D → Option D) (a b : Ev) : Ev := bnd (dat a) fun x => bnd (dat b) fun y => opt ((g x y).map Rv.d)
def ev2c (g : D → D → Option CC) (a b : Ev) : Ev := bnd (dat a) fun x => bnd (dat b) fun y => opt ((g x y).map Rv.c)
def ev1 (g : D → Option D) (a : Ev) : Ev := bnd (dat a) fun x => opt ((g x).map Rv.d)
variable (K ad) in
def O2 (r : R2) (g : D → D → Option D) : Prop := ∀ {F H : Hp} {x y : V} {d e z : D} {Q : VK}, Same F H → Rp K ad F x d → Rp K ad F y e → g d e = some z → (∀ v, Rp K ad F v z → Q v H) → r x y H Q
variable (K ad) in
def O1 (r : V → Hp → VK → Prop) (g : D → Option D) : Prop := ∀ {F H : Hp} {x : V} {d z : D} {Q : VK}, Same F H → Rp K ad F x d → g d = some z → (∀ v, Rp K ad F v z → Q v H) → r x H Q
variable (K ad) in
/-- .. that makes a new object -/
def O2c (r : R2) (g : D → D → Option CC) : Prop := ∀ {F H : Hp} {x y : V} {d e : D} {z : CC} {Q : VK}, Same F H → Rp K ad F x d → Rp K ad F y e → g d e = some z → (∀ p o, H p = none → (F p = none → CelR K ad F (upd H p o) p z) → Q (.ref p) (upd H p o)) → r x y H Q
theorem map_some {α β : Type} {o : Option α} {f : α → β} {b : β} (h : o.map f = some b) : ∃ a, o = some a ∧ f a = b := by
  cases o with
  | none => cases h
  | some a => exact ⟨a, rfl, Option.some.inj h⟩
theorem w_2 {r : R2} {g : D → D → Option D} (O : O2 K ct.ad r g) {Q : VK} (h : TP K ct W (ev2 g fa fb) σ H Q) : tOp r (TP K ct W fa) (TP K ct W fb) σ H Q := by
  obtain ⟨fr, F, ρ, S, h⟩ := h
  refine h.dat S fun F1 H1 ρ1 v d s1 S1 r1 h => ?_
  refine h.dat S1 fun F2 H2 ρ2 u e s2 S2 r2 h => ?_
  obtain ⟨z, e1, q⟩ := h.opt
  obtain ⟨y, e2, rfl⟩ := map_some e1
  exact O S2.fh (r1.mono s2) r2 e2 fun v rv => q v F2 H2 (Same.refl _) S2 rv
theorem w_1 {r : V → Hp → VK → Prop} {g : D → Option D} (O : O1 K ct.ad r g) {Q : VK} (h : TP K ct W (ev1 g fa) σ H Q) : tUn r (TP K ct W fa) σ H Q := by
  obtain ⟨fr, F, ρ, S, h⟩ := h
  refine h.dat S fun F1 H1 ρ1 v d s1 S1 r1 h => ?_
  obtain ⟨z, e1, q⟩ := h.opt
  obtain ⟨y, e2, rfl⟩ := map_some e1
  exact O S1.fh r1 e2 fun v rv => q v F1 H1 (Same.refl _) S1 rv
theorem pp_2 {op : Operator} {r : R2} {g : D → D → Option D} (ho : OpR X (binaryOp op) r) (O : O2 K ct.ad r g) (ha : PE X a (TP K ct W fa)) (hb : PE X b (TP K ct W fb)) : PE X (.BinOp a op b pos) (TP K ct W (ev2 g fa fb)) := (pe_op ho ha hb).imp fun _ _ _ => w_2 O
theorem pp_1 {op : UnaryOp} {r : V → Hp → VK → Prop} {g : D → Option D} (ho : UnR X (unaryOp op) r) (O : O1 K ct.ad r g) (ha : PE X a (TP K ct W fa)) : PE X (.UnaryOp op a pos) (TP K ct W (ev1 g fa)) := (pe_un ho ha).imp fun _ _ _ => w_1 O
theorem pp_cmp {op : CmpOp} {r : R2} {g : D → D → Option D} (ho : OpR X (compareOp op) r) (O : O2 K ct.ad r g) (ha : PE X a (TP K ct W fa)) (hb : PE X b (TP K ct W fb)) (hm : behindInMarks op b = false) : PE X (.Compare a [op] [b] pos) (TP K ct W (ev2 g fa fb)) := (pe_cmpR ho ha hb hm).imp fun _ _ _ => w_2 O
/-- tests -/
def tst (a : Ev) : M Bool := bnd (dat a) fun x => match x with | .bl b => pur b | _ => fai
theorem w_t {Q : Bool → Hp → Prop} (h : TB K ct W (tst fa) σ H Q) : tTest (TP K ct W fa) σ H Q := by
  obtain ⟨fr, F, ρ, S, h⟩ := h
  refine h.dat S fun F1 H1 ρ1 v d s1 S1 r1 h => ?_
  cases d with
  | bl b =>
    cases r1
    exact ⟨b, rfl, h.ok b F1 H1 (Same.refl _) S1 rfl⟩
  | _ => obtain ⟨_, _, e, _⟩ := h; cases e
theorem pp_tcmp {op : CmpOp} {r : R2} {g : D → D → Option D} (ho : OpR X (compareOp op) r) (O : O2 K ct.ad r g) (ha : PE X a (TP K ct W fa)) (hb : PE X b (TP K ct W fb)) (hm : behindInMarks op b = false) : PT X (.Compare a [op] [b] pos) (TB K ct W (tst (ev2 g fa fb))) := by
  refine (pt_cmpR ho ha hb hm).imp fun σ H Q h => ?_
  have z := w_t h
  obtain ⟨fr, F, ρ, S, h⟩ := z
  exact w_2 O ⟨fr, F, ρ, S, h⟩
theorem pp_tval {e : Expr} (h : PE X e (TP K ct W fa)) (he : ∀ whole, isTrue e X.env whole = (do let v ← whole; standAt e.pos; holding [v] (truthy v)) := by intro _; rfl) : PT X e (TB K ct W (tst fa)) := (pt_val h he).imp fun _ _ _ => w_t
end
end PL
end
section
namespace PL
open PySem PySem.Spec PyProof.Rows L2
variable {K : PySem.W.Frag} {ad : Cl → Addr} {ct : CT}
variable {fr : Fr} {F F' H H' : Hp} {σ : L2.St} {ρ : List Sl} {W : WX}
/-! ### ints -/
def dAdd : D → D → Option D | .int i, .int j => some (.int (i + j)) | _, _ => none
def dSub : D → D → Option D | .int i, .int j => some (.int (i - j)) | _, _ => none
/-- a product: one factor below 2 ^ 64, or both not beyond a million bits -/
def mulOk (i j : Int) : Prop := (-(2 ^ 64) < i ∧ i < 2 ^ 64) ∨ (-(2 ^ 64) < j ∧ j < 2 ^ 64) ∨ i.natAbs.log2 + j.natAbs.log2 < 1000000
instance (i j : Int) : Decidable (mulOk i j) := by unfold mulOk; infer_instance
def dMul : D → D → Option D | .int i, .int j => if mulOk i j then some (.int (i * j)) else none | _, _ => none
def divOk (j : Int) : Prop := 0 < j ∧ (j < 1073741824 ∨ j.natAbs.log2 < 9000)
instance (j : Int) : Decidable (divOk j) := by unfold divOk; infer_instance
def dDiv : D → D → Option D | .int i, .int j => if divOk j then some (.int (i / j)) else none | _, _ => none
def dDivN : D → D → Option D | .int i, .int j => if j ≠ 0 ∧ j.natAbs.log2 < 9000 then some (.int (i.fdiv j)) else none | _, _ => none
def dMod : D → D → Option D | .int i, .int j => if 0 < j then some (.int (i % j)) else none | _, _ => none
def dPow : D → D → Option D | .int i, .int j => if 0 ≤ j ∧ j ≤ 1000000 ∧ i.natAbs < 2 ^ 64 then some (.int (i ^ j.toNat)) else none | _, _ => none
def dNeg : D → Option D | .int i => some (.int (-i)) | _ => none
def dLt : D → D → Option D | .int i, .int j => some (.bl (decide (i < j))) | _, _ => none
def dLe : D → D → Option D | .int i, .int j => some (.bl (decide (i ≤ j))) | _, _ => none
def dGt : D → D → Option D | .int i, .int j => some (.bl (decide (j < i))) | _, _ => none
def dGe : D → D → Option D | .int i, .int j => some (.bl (decide (j ≤ i))) | _, _ => none
theorem o_0 {g : Int → Int → V} {gd : Int → Int → D} {G : D → D → Option D} (hg : ∀ d e z, G d e = some z → ∃ i j, d = .int i ∧ e = .int j ∧ z = gd i j) (hv : ∀ i j, (gd i j).toV = some (g i j)) : O2 K ct.ad (rI0 g) G := by
  intro F H x y d e z Q s r1 r2 e1 q
  obtain ⟨i, j, rfl, rfl, rfl⟩ := hg d e z e1
  cases r1
  cases r2
  exact ⟨i, j, rfl, rfl, q _ (D.toV_rp (hv i j))⟩
theorem o_add : O2 K ct.ad (rI0 fun i j => .int (i + j)) dAdd := o_0 (gd := fun i j => .int (i + j)) (fun d e z h => by
  cases d <;> cases e <;> cases h
  exact ⟨_, _, rfl, rfl, rfl⟩) (fun _ _ => rfl)
theorem o_sub : O2 K ct.ad (rI0 fun i j => .int (i - j)) dSub := o_0 (gd := fun i j => .int (i - j)) (fun d e z h => by
  cases d <;> cases e <;> cases h
  exact ⟨_, _, rfl, rfl, rfl⟩) (fun _ _ => rfl)
theorem o_lt : O2 K ct.ad (rI0 fun i j => .bl (decide (i < j))) dLt := o_0 (gd := fun i j => .bl (decide (i < j))) (fun d e z h => by
  cases d <;> cases e <;> cases h
  exact ⟨_, _, rfl, rfl, rfl⟩) (fun _ _ => rfl)
theorem o_le : O2 K ct.ad (rI0 fun i j => .bl (decide (i ≤ j))) dLe := o_0 (gd := fun i j => .bl (decide (i ≤ j))) (fun d e z h => by
  cases d <;> cases e <;> cases h
  exact ⟨_, _, rfl, rfl, rfl⟩) (fun _ _ => rfl)
theorem o_gt : O2 K ct.ad (rI0 fun i j => .bl (decide (j < i))) dGt := o_0 (gd := fun i j => .bl (decide (j < i))) (fun d e z h => by
  cases d <;> cases e <;> cases h
  exact ⟨_, _, rfl, rfl, rfl⟩) (fun _ _ => rfl)
theorem o_ge : O2 K ct.ad (rI0 fun i j => .bl (decide (j ≤ i))) dGe := o_0 (gd := fun i j => .bl (decide (j ≤ i))) (fun d e z h => by
  cases d <;> cases e <;> cases h
  exact ⟨_, _, rfl, rfl, rfl⟩) (fun _ _ => rfl)
/-- a product, either way -/
def rMulB : R2 := fun x y H Q => ∃ i j, x = .int i ∧ y = .int j ∧ mulOk i j ∧ Q (.int (i * j)) H
theorem op_mulB {X : Cx} : OpR X (binaryOp .Mult) rMulB := by
  intro pins s σ H x y v u Q I rx ry ⟨i, j, ex, ey, hc, q⟩
  rcases hc with hc | hc | hc
  · exact op_mul pins s σ H x y v u Q I rx ry ⟨i, j, ex, ey, .inl hc, q⟩
  · exact op_mul pins s σ H x y v u Q I rx ry ⟨i, j, ex, ey, .inr hc, q⟩
  · exact op_mulW pins s σ H x y v u Q I rx ry ⟨i, j, ex, ey, hc, q⟩
def rDivB : R2 := fun x y H Q => ∃ i j, x = .int i ∧ y = .int j ∧ divOk j ∧ Q (.int (i / j)) H
theorem op_divB {X : Cx} : OpR X (binaryOp .FloorDiv) rDivB := by
  intro pins s σ H x y v u Q I rx ry ⟨i, j, ex, ey, ⟨h0, hc⟩, q⟩
  rcases hc with hc | hc
  · exact op_fdiv pins s σ H x y v u Q I rx ry ⟨i, j, ex, ey, ⟨h0, hc⟩, q⟩
  · exact op_fdivW pins s σ H x y v u Q I rx ry ⟨i, j, ex, ey, ⟨h0, hc⟩, q⟩
def rDivN : R2 := fun x y H Q => ∃ i j, x = .int i ∧ y = .int j ∧ (j ≠ 0 ∧ j.natAbs.log2 < 9000) ∧ Q (.int (i.fdiv j)) H
theorem o_mul : O2 K ct.ad rMulB dMul := by
  intro F H x y d e z Q s r1 r2 e1 q
  cases d <;> cases e <;> try cases e1
  rename_i i j
  cases r1; cases r2
  have e1 : (if mulOk i j then some (D.int (i * j)) else none) = some z := e1
  split at e1
  · rename_i h
    cases e1
    exact ⟨i, j, rfl, rfl, h, q _ (.int _)⟩
  · cases e1
theorem o_div : O2 K ct.ad rDivB dDiv := by
  intro F H x y d e z Q s r1 r2 e1 q
  cases d <;> cases e <;> try cases e1
  rename_i i j
  cases r1; cases r2
  have e1 : (if divOk j then some (D.int (i / j)) else none) = some z := e1
  split at e1
  · rename_i h
    cases e1
    exact ⟨i, j, rfl, rfl, h, q _ (.int _)⟩
  · cases e1
theorem o_mod : O2 K ct.ad (rI (fun _ j => 0 < j) fun i j => .int (i % j)) dMod := by
  intro F H x y d e z Q s r1 r2 e1 q
  cases d <;> cases e <;> try cases e1
  rename_i i j
  cases r1; cases r2
  have e1 : (if 0 < j then some (D.int (i % j)) else none) = some z := e1
  split at e1
  · rename_i h
    cases e1
    exact ⟨i, j, rfl, rfl, h, q _ (.int _)⟩
  · cases e1
theorem o_pow : O2 K ct.ad (rI CPow fun i j => .int (i ^ j.toNat)) dPow := by
  intro F H x y d e z Q s r1 r2 e1 q
  cases d <;> cases e <;> try cases e1
  rename_i i j
  cases r1; cases r2
  have e1 : (if 0 ≤ j ∧ j ≤ 1000000 ∧ i.natAbs < 2 ^ 64 then some (D.int (i ^ j.toNat)) else none) = some z := e1
  split at e1
  · rename_i h
    cases e1
    exact ⟨i, j, rfl, rfl, h, q _ (.int _)⟩
  · cases e1
theorem o_neg : O1 K ct.ad (rU fun i => .int (-i)) dNeg := by
  intro F H x d z Q s r e q
  cases d <;> cases e
  cases r
  exact ⟨_, rfl, q _ (.int _)⟩
/-! ### texts, lists, tuples -/
def dAddS : D → D → Option D | .str s, .str t => if s.length + t.length ≤ 16777216 then some (.str (s ++ t)) else none | _, _ => none
def rAddS : R2 := fun x y H Q => ∃ i j, x = .str i ∧ y = .str j ∧ i.length + j.length ≤ sizeLine ∧ Q (.str (i ++ j)) H
theorem op_addSS {X : Cx} : OpR X (binaryOp .Add) rAddS := op_add_str
theorem o_addS : O2 K ct.ad rAddS dAddS := by
  intro F H x y d e z Q s r1 r2 e1 q
  cases d <;> cases e <;> try cases e1
  rename_i i j
  cases r1; cases r2
  have e1 : (if i.length + j.length ≤ 16777216 then some (D.str (i ++ j)) else none) = some z := e1
  split at e1
  · rename_i h
    cases e1
    exact ⟨i, j, rfl, rfl, h, q _ (.str _)⟩
  · cases e1
def cCat : D → D → Option CC | .lst xs, .lst ys => if xs.length + ys.length ≤ 16777216 then some (.lst (xs ++ ys)) else none | _, _ => none
def rep {α : Type} (n : Nat) (xs : List α) : List α := (List.replicate n xs).flatten
def cRep : D → D → Option CC | .lst xs, .int k => if -(2 ^ 63) ≤ k ∧ k < 2 ^ 63 ∧ xs.length * k.toNat ≤ 16777216 then some (.lst (rep k.toNat xs)) else none | _, _ => none
def dCatT : D → D → Option D | .tup xs, .tup ys => if xs.length + ys.length ≤ 16777216 then some (.tup (xs ++ ys)) else none | _, _ => none
/-! ### comparisons of data -/
mutual
def D.py : D → Option PyData
  | .non => some .none | .bl b => some (.bool b) | .int i => some (.int i) | .str s => some (.str s)
  | .tup xs => (D.pys xs).map PyData.tuple | .lst xs => (D.pys xs).map PyData.list | .sq xs => (D.pys xs).map PyData.list
  | _ => none
def D.pys : List D → Option (List PyData)
  | [] => some []
  | x :: xs => match D.py x, D.pys xs with | some a, some b => some (a :: b) | _, _ => none
end
mutual
theorem Rp.dp {F H : Hp} (s : Same F H) : ∀ {d : D} {v : V} {e : PyData}, Rp K ct.ad F v d → d.py = some e → Dp K H v e
  | .non, _, _, h, q => by cases h; cases q; exact .non
  | .bl _, _, _, h, q => by cases h; cases q; exact .bl _
  | .int _, _, _, h, q => by cases h; cases q; exact .int _
  | .str _, _, _, h, q => by cases h; cases q; exact .str _
  | .tup xs, _, _, h, q => by
    cases h with
    | tup h r =>
      rw [D.py] at q
      obtain ⟨a, e1, rfl⟩ := map_some q
      exact .tup (sameT s h) (Rps.dp s r e1)
  | .lst xs, _, _, h, q => by
    cases h with
    | lst h r =>
      rw [D.py] at q
      obtain ⟨a, e1, rfl⟩ := map_some q
      exact .lst (SqL.of (s _ _ h)) (Rps.dp s r e1)
  | .sq xs, _, _, h, q => by
    cases h with
    | sq h r =>
      rw [D.py] at q
      obtain ⟨a, e1, rfl⟩ := map_some q
      exact .lst (s.seq h) (Rps.dp s r e1)
  | .obj _ _, _, _, _, q => by simp [D.py] at q
  | .cl _, _, _, _, q => by simp [D.py] at q
  | .dK _ _, _, _, _, q => by simp [D.py] at q
  | .dT _ _, _, _, _, q => by simp [D.py] at q
theorem Rps.dp {F H : Hp} (s : Same F H) : ∀ {ds : List D} {vs : List V} {es : List PyData}, Rps K ct.ad F vs ds → D.pys ds = some es → DpAll K H vs es
  | [], _, _, h, q => by cases h; rw [D.pys] at q; cases q; exact .nil
  | d :: ds, _, _, h, q => by
    cases h with
    | cons h t =>
      rw [D.pys] at q
      split at q
      · rename_i a b e1 e2
        cases q
        exact .cons (Rp.dp s h e1) (Rps.dp s t e2)
      · cases q
end
/-- == as Python has it, of data of one kind -/
def D.eq? : D → D → Option Bool
  | .non, .non => some true | .non, .int _ => some false | .int _, .non => some false | .non, .bl _ => some false | .bl _, .non => some false | .non, .str _ => some false | .str _, .non => some false
  | .int i, .int j => some (decide (i = j)) | .bl b, .bl c => some (b == c) | .str s, .str t => some (decide (s = t))
  | .int _, .str _ => some false | .str _, .int _ => some false | .bl _, .str _ => some false | .str _, .bl _ => some false
  | d, e => match d.py, e.py with
    | some x, some y => if SeqAt.shaped x && SeqAt.shaped y then some (PyData.eqv x y) else none
    | _, _ => none
def dEq (d e : D) : Option D := (d.eq? e).map .bl
def dNe (d e : D) : Option D := (d.eq? e).map fun b => .bl (!b)
def rEqB (K : PySem.W.Frag) : R2 := fun x y H Q => rEq x y H Q ∨ rEqD K x y H Q
def rNeB (K : PySem.W.Frag) : R2 := fun x y H Q => rNe x y H Q ∨ rNeD K x y H Q
theorem op_eqB {X : Cx} (hu : X.A.units + 64 < cLine) : OpR X (compareOp .Eq) (rEqB X.K) := fun pins s σ H x y v u Q I rx ry h => h.elim (op_eq pins s σ H x y v u Q I rx ry) (op_eqD hu pins s σ H x y v u Q I rx ry)
theorem op_neB {X : Cx} (hu : X.A.units + 64 < cLine) : OpR X (compareOp .NotEq) (rNeB X.K) := fun pins s σ H x y v u Q I rx ry h => h.elim (op_ne pins s σ H x y v u Q I rx ry) (op_neD hu pins s σ H x y v u Q I rx ry)
/-- how two equal or unequal data lie -/
theorem eq_cases {F H : Hp} {x y : V} {d e : D} {b : Bool} (s : Same F H) (r1 : Rp K ct.ad F x d) (r2 : Rp K ct.ad F y e) (h : d.eq? e = some b) :
    (scal x y = true ∧ decide (x = y) = b) ∨ ∃ p q, Dp K H x p ∧ Dp K H y q ∧ SeqAt.shaped p = true ∧ SeqAt.shaped q = true ∧ PyData.eqv p q = b := by
  have deep : ∀ (h : (match d.py, e.py with | some x, some y => if SeqAt.shaped x && SeqAt.shaped y then some (PyData.eqv x y) else none | _, _ => none) = some b),
      ∃ p q, Dp K H x p ∧ Dp K H y q ∧ SeqAt.shaped p = true ∧ SeqAt.shaped q = true ∧ PyData.eqv p q = b := fun h => by
    split at h
    · rename_i p q e1 e2
      split at h
      · rename_i c
        rw [Bool.and_eq_true] at c
        cases h
        exact ⟨p, q, r1.dp s e1, r2.dp s e2, c.1, c.2, rfl⟩
      · cases h
    · cases h
  cases d <;> cases e <;> first
    | exact .inr (deep h)
    | (cases r1; cases r2; cases h; exact .inl ⟨rfl, by first | rfl | simp | (rename_i p q; cases p <;> cases q <;> rfl)⟩)
theorem o_eq : O2 K ct.ad (rEqB K) dEq := by
  intro F H x y d e z Q s r1 r2 e1 q
  obtain ⟨b, h, rfl⟩ := map_some e1
  rcases eq_cases s r1 r2 h with ⟨h1, h2⟩ | ⟨p, p', h1, h2, h3, h4, h5⟩
  · exact .inl ⟨h1, by rw [h2]; exact q _ (.bl b)⟩
  · exact .inr ⟨p, p', h1, h2, h3, h4, by rw [h5]; exact q _ (.bl b)⟩
theorem o_ne : O2 K ct.ad (rNeB K) dNe := by
  intro F H x y d e z Q s r1 r2 e1 q
  obtain ⟨b, h, rfl⟩ := map_some e1
  rcases eq_cases s r1 r2 h with ⟨h1, h2⟩ | ⟨p, p', h1, h2, h3, h4, h5⟩
  · exact .inl ⟨h1, by rw [h2]; exact q _ (.bl _)⟩
  · exact .inr ⟨p, p', h1, h2, h3, h4, by rw [h5]; exact q _ (.bl _)⟩
/-- is None, is not None -/
def D.isN : D → Bool | .non => true | _ => false
def dIs : D → D → Option D | d, .non => some (.bl d.isN) | _, _ => none
def dIsNot : D → D → Option D | d, .non => some (.bl (!d.isN)) | _, _ => none
def rIsN : R2 := fun y z H Q => z = .non ∧ Q (.bl (decide (y = .non))) H
def rNotN : R2 := fun y z H Q => z = .non ∧ Q (.bl (!decide (y = .non))) H
theorem Rp.isN {F : Hp} {v : V} {d : D} (r : Rp K ct.ad F v d) : decide (v = .non) = d.isN := by cases r <;> rfl
/-! ### and, or, not, conditional -/
section
variable {X : Cx} {a b c d : Expr} {fa fb fc fd : Ev} {ta tb : M Bool} {pos : Pos}
def tNo (t : M Bool) : M Bool := bnd t fun b => pur (!b)
def tAn (t u : M Bool) : M Bool := bnd t fun b => if b then u else pur false
def tOo (t u : M Bool) : M Bool := bnd t fun b => if b then pur true else u
theorem w_no {Q : Bool → Hp → Prop} (h : TB K ct W (tNo ta) σ H Q) : tNot (TB K ct W ta) σ H Q := by
  obtain ⟨fr, F, ρ, S, h⟩ := h
  exact h.bnd S fun F1 H1 ρ1 v d s1 S1 r1 h => h.ok _ F1 H1 (Same.refl _) S1 (by cases r1; rfl)
theorem w_an {Q : Bool → Hp → Prop} (h : TB K ct W (tAn ta tb) σ H Q) : tAnd (TB K ct W ta) (TB K ct W tb) σ H Q := by
  obtain ⟨fr, F, ρ, S, h⟩ := h
  refine h.bnd S fun F1 H1 ρ1 v d s1 S1 r1 h => ?_
  cases r1
  cases v with
  | true => exact h.to S1
  | false => exact h.ok _ F1 H1 (Same.refl _) S1 rfl
theorem w_oo {Q : Bool → Hp → Prop} (h : TB K ct W (tOo ta tb) σ H Q) : tOr (TB K ct W ta) (TB K ct W tb) σ H Q := by
  obtain ⟨fr, F, ρ, S, h⟩ := h
  refine h.bnd S fun F1 H1 ρ1 v d s1 S1 r1 h => ?_
  cases r1
  cases v with
  | false => exact h.to S1
  | true => exact h.ok _ F1 H1 (Same.refl _) S1 rfl
theorem pp_tno (h : PT X a (TB K ct W ta)) : PT X (.UnaryOp .Not a pos) (TB K ct W (tNo ta)) := (pt_not h).imp fun _ _ _ => w_no
theorem pp_wan {rest : List Expr} (ha : PT X a (TB K ct W ta)) (hb : PW X (.BoolOp .And (b :: rest) pos) (TB K ct W tb)) : PW X (.BoolOp .And (a :: b :: rest) pos) (TB K ct W (tAn ta tb)) := (pw_and ha hb).imp fun _ _ _ => w_an
theorem pp_woo {rest : List Expr} (ha : PT X a (TB K ct W ta)) (hb : PW X (.BoolOp .Or (b :: rest) pos) (TB K ct W tb)) : PW X (.BoolOp .Or (a :: b :: rest) pos) (TB K ct W (tOo ta tb)) := (pw_or ha hb).imp fun _ _ _ => w_oo
/-- .. as values -/
def vNo (m : Ev) : Ev := bnd (tst m) fun b => vD (.bl (!b))
def vAn (m n : Ev) : Ev := bnd (tst m) fun b => if b then bnd (dat n) vD else vD (.bl false)
def vOo (m n : Ev) : Ev := bnd (tst m) fun b => if b then vD (.bl true) else bnd (dat n) vD
def vIf (t : M Bool) (m n : Ev) : Ev := bnd t fun b => if b then m else n
theorem Tat.tstT {δ γ : Type} {R' : Rel3 δ γ} {m : Ev} {k : Bool → M γ} {Q : δ → Hp → Prop} {Q1 : V → Hp → Prop} (h : Tat K ct R' W fr F ρ (PL.bnd (PL.tst m) k) σ Q)
    (hq : ∀ F1 H1 ρ1 b, Same F F1 → Rel K ct fr F1 H1 σ ρ1 → Tat K ct R' W fr F1 ρ1 (k b) σ Q → Q1 (.bl b) H1) : Tat K ct (RV K ct.ad) W fr F ρ m σ Q1 := by
  have e : PL.bnd (PL.tst m) k = PL.bnd (PL.dat m) fun x => match x with | .bl b => k b | _ => fai := by
    funext ρ
    unfold PL.tst PL.bnd
    cases em : PL.dat m ρ with
    | none => rfl
    | some x =>
      obtain ⟨r1, ρ1⟩ := x
      cases r1 with
      | ok a => cases a <;> rfl
      | er c pl => rfl
  rw [e] at h
  refine h.datT fun F1 H1 ρ1 v d s1 S1 r1 h => ?_
  cases d with
  | bl b =>
    cases r1
    exact hq F1 H1 ρ1 b s1 S1 h
  | _ => obtain ⟨_, _, e, _⟩ := h; cases e
theorem Tat.tst {δ γ : Type} {R' : Rel3 δ γ} {m : Ev} {k : Bool → M γ} {Q : δ → Hp → Prop} {Q1 : V → Hp → Prop} (h : Tat K ct R' W fr F ρ (PL.bnd (PL.tst m) k) σ Q) (S : Rel K ct fr F H σ ρ)
    (hq : ∀ F1 H1 ρ1 b, Same F F1 → Rel K ct fr F1 H1 σ ρ1 → Tat K ct R' W fr F1 ρ1 (k b) σ Q → Q1 (.bl b) H1) : T K ct (RV K ct.ad) W m σ H Q1 := ⟨fr, F, ρ, S, h.tstT hq⟩
theorem w_vno {Q : VK} (h : TP K ct W (vNo fa) σ H Q) : tNotV (TP K ct W fa) σ H Q := by
  obtain ⟨fr, F, ρ, S, h⟩ := h
  exact h.tst S fun F1 H1 ρ1 b s1 S1 h => ⟨b, rfl, h.ok _ F1 H1 (Same.refl _) S1 (Rp.bl _)⟩
theorem w_van {Q : VK} (h : TP K ct W (vAn fa fb) σ H Q) : tAndV (TP K ct W fa) (TP K ct W fb) σ H Q := by
  obtain ⟨fr, F, ρ, S, h⟩ := h
  refine h.tst S fun F1 H1 ρ1 b s1 S1 h => ⟨b, rfl, ?_⟩
  cases b with
  | true =>
    rw [if_pos rfl]
    have h : Tat K ct (RV K ct.ad) W fr F1 ρ1 (bnd (dat fb) vD) σ Q := h
    exact h.dat S1 fun F2 H2 ρ2 v d s2 S2 r2 h => h.ok _ F2 H2 (Same.refl _) S2 r2
  | false =>
    (rw [if_neg Bool.false_ne_true])
    exact Tat.ok (a := Rv.d (.bl false)) h _ F1 H1 (Same.refl _) S1 (Rp.bl _)
theorem pp_vno (h : PE X a (TP K ct W fa)) : PE X (.UnaryOp .Not a pos) (TP K ct W (vNo fa)) := (pe_not h).imp fun _ _ _ => w_vno
theorem pp_van {rest : List Expr} (ha : PE X a (TP K ct W fa)) (hb : PE X (.BoolOp .And (b :: rest) pos) (TP K ct W fb)) : PE X (.BoolOp .And (a :: b :: rest) pos) (TP K ct W (vAn fa fb)) := (pe_and ha hb).imp fun _ _ _ => w_van
/-! a op b op' c -/
def ch2 (g g' : D → D → Option D) (a b c : Ev) : Ev := bnd (dat a) fun x => bnd (dat b) fun y => bnd (opt (g x y)) fun z => match z with
  | .bl true => bnd (dat c) fun u => opt ((g' y u).map Rv.d)
  | .bl false => vD (.bl false)
  | _ => fai
theorem Tat.optb {δ γ : Type} {R' : Rel3 δ γ} {o : Option D} {k : D → M γ} {Q : δ → Hp → Prop} (h : Tat K ct R' W fr F ρ (PL.bnd (PL.opt o) k) σ Q) : ∃ z, o = some z ∧ Tat K ct R' W fr F ρ (k z) σ Q := by
  cases o with
  | none => obtain ⟨_, _, e, _⟩ := h; cases e
  | some z => exact ⟨z, rfl, h⟩
theorem w_ch2 {r r' : R2} {g g' : D → D → Option D} (O : O2 K ct.ad r g) (O' : O2 K ct.ad r' g') {Q : VK} (h : TP K ct W (ch2 g g' fa fb fc) σ H Q) : tChain r r' (TP K ct W fa) (TP K ct W fb) (TP K ct W fc) σ H Q := by
  obtain ⟨fr, F, ρ, S, h⟩ := h
  refine h.dat S fun F1 H1 ρ1 v d s1 S1 r1 h => ?_
  refine h.dat S1 fun F2 H2 ρ2 u e s2 S2 r2 h => ?_
  obtain ⟨z, e1, h⟩ := h.optb
  refine O S2.fh (r1.mono s2) r2 e1 fun w rw_ => ?_
  cases z with
  | bl k =>
    cases rw_
    refine ⟨k, rfl, ?_⟩
    cases k with
    | false =>
      (rw [if_neg Bool.false_ne_true])
      exact Tat.ok (a := Rv.d (.bl false)) h _ F2 H2 (Same.refl _) S2 (Rp.bl _)
    | true =>
      rw [if_pos rfl]
      refine Tat.dat (k := fun w => opt ((g' e w).map Rv.d)) h S2 fun F3 H3 ρ3 v3 d3 s3 S3 r3 h => ?_
      obtain ⟨y, e3, q⟩ := h.opt
      obtain ⟨y', e4, rfl⟩ := map_some e3
      exact O' S3.fh (r2.mono s3) r3 e4 fun w' rw' => q w' F3 H3 (Same.refl _) S3 rw'
  | _ => obtain ⟨_, _, e, _⟩ := h; cases e
theorem pp_tch2 {op op' : CmpOp} {r r' : R2} {g g' : D → D → Option D} (ho : OpR X (compareOp op) r) (ho' : OpR X (compareOp op') r') (O : O2 K ct.ad r g) (O' : O2 K ct.ad r' g') (ha : PE X a (TP K ct W fa)) (hb : PE X b (TP K ct W fb)) (hc : PE X c (TP K ct W fc))
    (hm : lastMarks [op, op'] [b, c] = false := by with_unfolding_all rfl) : PT X (.Compare a [op, op'] [b, c] pos) (TB K ct W (tst (ch2 g g' fa fb fc))) := by
  refine (pt_chain ho ho' ha hb hc hm).imp fun σ H Q h => ?_
  exact w_ch2 O O' (w_t h)
end
end PL
end
section
namespace PL
open PySem PySem.Spec PyProof.Rows L2
variable {K : PySem.W.Frag} {ad : Cl → Addr} {ct : CT}
variable {fr : Fr} {F F' H H' : Hp} {σ : L2.St} {ρ : List Sl} {W : WX}
/-- a tuple's sum -/
def rCatD (K : PySem.W.Frag) : R2 := rCatA K
/-- a result that may be new data -/
theorem w_2d {r : R2} {g : D → D → Option D} {fa fb : Ev} {Q : VK} (O : ∀ {F H : Hp} {x y : V} {d e z : D} {Q : VK}, Same F H → Rp K ct.ad F x d → Rp K ct.ad F y e → g d e = some z → (∀ v, Rp K ct.ad F v z → Q v H) → (∀ p vs ds, z = .tup ds → Rps K ct.ad F vs ds → H p = none → Q (.ref p) (upd H p (.tup vs))) → r x y H Q)
    (h : TP K ct W (ev2 g fa fb) σ H Q) : tOp r (TP K ct W fa) (TP K ct W fb) σ H Q := by
  obtain ⟨fr, F, ρ, S, h⟩ := h
  refine h.dat S fun F1 H1 ρ1 v d s1 S1 r1 h => ?_
  refine h.dat S1 fun F2 H2 ρ2 u e s2 S2 r2 h => ?_
  obtain ⟨z, e1, q⟩ := h.opt
  obtain ⟨y, e2, rfl⟩ := map_some e1
  refine O S2.fh (r1.mono s2) r2 e2 (fun v rv => q v F2 H2 (Same.refl _) S2 rv) fun p vs ds ez rs hp => ?_
  subst ez
  exact q _ (upd F2 p (.tup vs)) _ (same_up (S2.nn hp)) (S2.newD hp) (Rp.tup (SqT.of upd_same) (rs.mono (same_up (S2.nn hp))))
theorem pp_catT {X : Cx} {a b : Expr} {fa fb : Ev} {pos : Pos} (eK : X.K = K) (ha : PE X a (TP K ct W fa)) (hb : PE X b (TP K ct W fb)) : PE X (.BinOp a .Add b pos) (TP K ct W (ev2 dCatT fa fb)) := by
  subst eK
  refine (pe_op op_catA ha hb).imp fun σ H Q => w_2d fun {F H x y d e z Q} s r1 r2 e1 q q2 => ?_
  cases d <;> cases e <;> try cases e1
  rename_i xs ys
  cases r1 with
  | tup h1 k1 =>
    cases r2 with
    | tup h2 k2 =>
      have e1 : (if xs.length + ys.length ≤ 16777216 then some (D.tup (xs ++ ys)) else none) = some z := e1
      split at e1
      · rename_i h
        cases e1
        refine ⟨_, _, _, _, rfl, rfl, sameT s h1, sameT s h2, by rw [k1.len, k2.len]; exact h, fun e => ?_, fun _ e => ?_, fun _ _ p hp => q2 p _ _ rfl (k1.app k2) hp⟩
        · subst e
          cases k1
          exact q _ (.tup h2 k2)
        · subst e
          cases k2
          rw [List.append_nil] at q
          exact q _ (.tup h1 k1)
      · cases e1
/-! ### fields -/
theorem look_zip {f : Str} : ∀ {ks : List Str} {vs : List V} {i : Nat}, ks.length = vs.length → ks.findIdx? (fun k => f == k) = some i → (ks.zip vs).lookup f = vs[i]?
  | [], _, _, _, h =>
    by simp at h
  | k :: ks, [], _, l, _ => by simp at l
  | k :: ks, v :: vs, i, l, h => by
    rw [List.zip_cons_cons, List.lookup_cons]
    rw [List.findIdx?_cons] at h
    cases e : f == k with
    | true =>
      rw [e] at h
      cases h
      rfl
    | false =>
      rw [e] at h
      have h : Option.map (fun i => i + 1) (ks.findIdx? (fun k => f == k)) = some i := h
      obtain ⟨j, h1, rfl⟩ := map_some h
      rw [look_zip (by simpa using l) h1]
      rfl
theorem look_no {f : Str} : ∀ {ks : List Str} {vs : List V}, ks.findIdx? (fun k => f == k) = none → (ks.zip vs).lookup f = none
  | [], _, _ => by simp
  | k :: ks, [], _ => by simp
  | k :: ks, v :: vs, h => by
    rw [List.zip_cons_cons, List.lookup_cons]
    rw [List.findIdx?_cons] at h
    cases e : f == k with
    | true => rw [e] at h; cases h
    | false =>
      rw [e] at h
      have h : Option.map (fun i => i + 1) (ks.findIdx? (fun k => f == k)) = none := h
      cases e2 : ks.findIdx? (fun k => f == k) with
      | none => exact look_no e2
      | some j => rw [e2] at h; cases h
def dFld (c : Cl) (i : Nat) : D → Option D | .obj c' xs => if c' = c then xs[i]? else none | _ => none
theorem pp_fld {X : Cx} {e : Expr} {fe : Ev} {f : Str} {pos : Pos} (c : Cl) (i : Nat) (eK : X.K = K) (hc : Cls K (ct.ad c)) (hn : NoAttr K (ct.ad c) f) (he : PE X e (TP K ct W fe)) (hi : c.fn.findIdx? (fun k => f == k) = some i := by decide)
    (hb : attributeBase e f X.env (eval e X.env) = eval e X.env := by rfl) : PE X (.Attribute e f pos) (TP K ct W (ev1 (dFld c i) fe)) := by
  subst eK
  refine (pe_fld he hb).imp fun σ H Q h => ?_
  obtain ⟨fr, F, ρ, S, h⟩ := h
  refine h.dat S fun F1 H1 ρ1 v d s1 S1 r1 h => ?_
  obtain ⟨z, e1, q⟩ := h.opt
  obtain ⟨y, e2, rfl⟩ := map_some e1
  cases d <;> try cases e2
  rename_i c' xs
  cases r1 with
  | @obj p dx _ vs _ h1 l1 k1 =>
    have e3 : (if c' = c then xs[i]? else none) = some y := e2
    clear e2
    split at e3
    · rename_i ec
      subst ec
      obtain ⟨v, hv, rv⟩ := k1.get e3
      exact ⟨p, ct.ad c', dx, _, v, rfl, S1.fh _ _ h1, hc, hn, by rw [look_zip l1 hi, hv], q v F1 H1 (Same.refl _) S1 rv⟩
    · cases e3
/-! ### subscripts -/
def dIx : D → D → Option D
  | .lst xs, .int i => atI xs i | .sq xs, .int i => atI xs i | .tup xs, .int i => atI xs i
  | .str z, .int i => if z.length ≤ 16777216 then (atI z.cps.toList i).map fun c => .str ⟨#[c]⟩ else none
  | _, _ => none
theorem Rps.atI {F : Hp} {vs : List V} {ds : List D} {i : Int} {d : D} (h : Rps K ct.ad F vs ds) (e : L2.atI ds i = some d) : ∃ v, L2.atI vs i = some v ∧ Rp K ct.ad F v d := by
  unfold L2.atI at e ⊢
  rw [h.len]
  cases q : ixN ds.length i with
  | none =>
    rw [q] at e
    cases e
  | some j =>
    rw [q] at e
    exact h.get e
theorem o_ix : O2 K ct.ad (rIx K) dIx := by
  intro F H x y d e z Q s r1 r2 e1 q
  cases d <;> cases e <;> try cases e1
  · rename_i t i
    cases r1; cases r2
    have e1 : (if t.length ≤ 16777216 then (atI t.cps.toList i).map fun c => D.str ⟨#[c]⟩ else none) = some z := e1
    split at e1
    · rename_i h
      obtain ⟨c, h1, rfl⟩ := map_some e1
      exact .inr (.inr ⟨t, i, c, rfl, rfl, h, h1, q _ (.str _)⟩)
    · cases e1
  · cases r2
    cases r1 with
    | tup h k => obtain ⟨v, h1, h2⟩ := k.atI e1; exact .inr (.inl ⟨_, _, _, v, rfl, rfl, sameT s h, h1, q v h2⟩)
  · cases r2
    cases r1 with
    | lst h k => obtain ⟨v, h1, h2⟩ := k.atI e1; exact .inl ⟨_, _, _, v, rfl, rfl, SqL.of (s _ _ h), h1, q v h2⟩
  · cases r2
    cases r1 with
    | sq h k => obtain ⟨v, h1, h2⟩ := k.atI e1; exact .inl ⟨_, _, _, v, rfl, rfl, s.seq h, h1, q v h2⟩
theorem ix_seqK {X : Cx} (eK : X.K = K) : IxR X (rIx K) := by subst eK; exact ix_seq
theorem pp_ix {X : Cx} {a b : Expr} {fa fb : Ev} {pos : Pos} (eK : X.K = K) (ha : PE X a (TP K ct W fa)) (hb : PE X b (TP K ct W fb)) (hs : PlainIx b) : PE X (.Subscript a b pos) (TP K ct W (ev2 dIx fa fb)) := (pe_ix (ix_seqK eK) ha hb hs).imp fun _ _ _ => w_2 o_ix
/-! slices -/
def cut {α : Type} (xs : List α) (lo hi : Option Int) : List α := (xs.drop (HT.sIx xs.length 0 lo)).take (HT.sIx xs.length xs.length hi - HT.sIx xs.length 0 lo)
theorem Rps.cut {F : Hp} {vs : List V} {ds : List D} (h : Rps K ct.ad F vs ds) (lo hi : Option Int) : Rps K ct.ad F (cutV vs lo hi) (PL.cut ds lo hi) := by
  unfold cutV PL.cut
  rw [h.len]
  exact (h.drop _).take _
def dPart : Option Ev → M (Option Int)
  | none => pur none
  | some m => bnd (dat m) fun d => match d with | .int i => pur (some i) | _ => fai
def RO : Rel3 (Option Int) (Option Int) := fun _ _ _ _ _ a b => a = b
theorem pp_pn {X : Cx} : PO X none (T K ct RO W (dPart none)) := po_none.imp fun σ H Q h => by
  obtain ⟨fr, F, ρ, S, h⟩ := h
  exact Tat.ok (a := (none : Option Int)) h none F H (Same.refl _) S rfl
theorem pp_ps {X : Cx} {e : Expr} {m : Ev} (h : PE X e (TP K ct W m)) : PO X (some e) (T K ct RO W (dPart (some m))) := (po_some h).imp fun σ H Q h => by
  obtain ⟨fr, F, ρ, S, h⟩ := h
  refine Tat.dat h S fun F1 H1 ρ1 v d s1 S1 r1 h => ?_
  cases d with
  | int i =>
    cases r1
    exact ⟨i, rfl, Tat.ok (a := some i) h (some i) F1 H1 (Same.refl _) S1 rfl⟩
  | _ => obtain ⟨_, _, e, _⟩ := h; cases e
def evSl (m : Ev) (lo hi : Option Ev) : Ev := bnd (dat m) fun x => bnd (dPart lo) fun l => bnd (dPart hi) fun u => match x with
  | .lst xs => pur (.c (.lst (cut xs l u)))
  | .sq xs => pur (.c (.lst (cut xs l u)))
  | .tup xs => vD (.tup (cut xs l u))
  | .str z => if z.length ≤ 16777216 then vD (.str (cutS z l u)) else fai
  | _ => fai
def rSlD (K : PySem.W.Frag) : V → Option Int → Option Int → Hp → VK → Prop := fun x lo hi H Q => rSlL K x lo hi H Q ∨ rSlA K x lo hi H Q ∨ rSlS x lo hi H Q
theorem sl_d {X : Cx} (eK : X.K = K) : L2.SlR X (rSlD K) := by subst eK; exact sl_list.or (sl_tupA.or sl_str)
theorem whole_cut {α : Type} {xs : List α} {lo hi : Option Int} (h : HT.sIx xs.length 0 lo = 0 ∧ HT.sIx xs.length xs.length hi = xs.length) : cut xs lo hi = xs := by
  unfold cut
  rw [h.1, h.2]
  simp
theorem pp_sl {X : Cx} {e : Expr} {m : Ev} {lo hi : Option Expr} {l u : Option Ev} {pos p2 : Pos} (eK : X.K = K) (he : PE X e (TP K ct W m)) (hl : PO X lo (T K ct RO W (dPart l))) (hu : PO X hi (T K ct RO W (dPart u))) :
    PE X (.Subscript e (.Slice lo hi none p2) pos) (TP K ct W (evSl m l u)) := by
  refine (pe_slice (sl_d eK) he hl hu).imp fun σ H Q h => ?_
  obtain ⟨fr, F, ρ, S, h⟩ := h
  refine Tat.dat h S fun F1 H1 ρ1 v d s1 S1 r1 h => ?_
  refine Tat.bnd h S1 fun F2 H2 ρ2 l1 l2 s2 S2 r2 h => ?_
  refine Tat.bnd h S2 fun F3 H3 ρ3 u1 u2 s3 S3 r3 h => ?_
  cases r2
  cases r3
  have s := s2.trans s3
  cases d with
  | lst xs =>
    cases r1 with
    | @lst p vs _ h1 k1 =>
      refine .inl ⟨p, vs, rfl, SqL.of (S3.fh _ _ (s _ _ h1)), fun q hq => ?_⟩
      exact Tat.ok (a := Rv.c (.lst (cut xs l1 u1))) h _ F3 _ (Same.refl _) (S3.newC hq) ⟨q, rfl, S3.fresh hq ⟨_, upd_same, (k1.mono s).cut _ _⟩⟩
  | sq xs =>
    cases r1 with
    | @sq p vs _ h1 k1 =>
      refine .inl ⟨p, vs, rfl, (s.trans S3.fh).seq h1, fun q hq => ?_⟩
      exact Tat.ok (a := Rv.c (.lst (cut xs l1 u1))) h _ F3 _ (Same.refl _) (S3.newC hq) ⟨q, rfl, S3.fresh hq ⟨_, upd_same, (k1.mono s).cut _ _⟩⟩
  | tup xs =>
    cases r1 with
    | @tup p vs _ h1 k1 =>
      refine .inr (.inl ⟨p, vs, rfl, sameT (s.trans S3.fh) h1, fun w => ?_, fun w q hq => ?_⟩)
      · refine Tat.ok (a := Rv.d (.tup (cut xs l1 u1))) h _ F3 H3 (Same.refl _) S3 ?_
        rw [k1.len] at w
        show Rp K ct.ad F3 (.ref p) (.tup (cut xs l1 u1))
        rw [whole_cut w]
        exact (Rp.tup h1 k1).mono s
      · exact Tat.ok (a := Rv.d (.tup (cut xs l1 u1))) h _ (upd F3 q (.tup (cutV vs l1 u1))) _ (same_up (S3.nn hq)) (S3.newD hq) (Rp.tup (SqT.of upd_same) (((k1.mono s).cut _ _).mono (same_up (S3.nn hq))))
  | str z =>
    cases r1
    have h : Tat K ct (RV K ct.ad) W fr F3 ρ3 (if z.length ≤ 16777216 then vD (.str (cutS z l1 u1)) else fai) σ Q := h
    split at h
    · rename_i hz
      exact .inr (.inr ⟨z, rfl, hz, Tat.ok (a := Rv.d (.str (cutS z l1 u1))) h _ F3 H3 (Same.refl _) S3 (Rp.str _)⟩)
    · obtain ⟨_, _, e, _⟩ := h; cases e
  | _ => obtain ⟨_, _, e, _⟩ := h; cases e
/-! ### displays -/
inductive DE | e (m : Ev) | s (m : Ev)
def D.items : D → Option (List D) | .lst xs => some xs | .sq xs => some xs | .tup xs => some xs | _ => none
def evDs : List DE → M (List D)
  | [] => pur []
  | .e m :: r => bnd (dat m) fun d => bnd (evDs r) fun ds => pur (d :: ds)
  | .s m :: r => bnd (dat m) fun d => bnd (opt d.items) fun xs => bnd (evDs r) fun ds => pur (xs ++ ds)
variable (K ct) in
abbrev TD (W : WX) (m : M (List D)) : TA := T K ct (RDs K ct.ad) W m
theorem pd_n {X : Cx} : PA X [] (TD K ct W (evDs [])) := pa_nil.imp fun σ H Q h => by
  obtain ⟨fr, F, ρ, S, h⟩ := h
  exact Tat.ok (a := ([] : List D)) h [] F H (Same.refl _) S Rps.nil
theorem pd_c {X : Cx} {e : Expr} {es : List Expr} {m : Ev} {r : List DE} (he : PE X e (TP K ct W m)) (hr : PA X es (TD K ct W (evDs r)))
    (hs : starEach (e :: es) X.env = (false, eval e X.env) :: starEach es X.env := by rfl) : PA X (e :: es) (TD K ct W (evDs (.e m :: r))) := (pa_cons he hr hs).imp fun σ H Q h => by
  obtain ⟨fr, F, ρ, S, h⟩ := h
  refine Tat.dat h S fun F1 H1 ρ1 v d s1 S1 r1 h => ?_
  refine Tat.bnd h S1 fun F2 H2 ρ2 vs ds s2 S2 r2 h => ?_
  exact Tat.ok (a := d :: ds) h _ F2 H2 (Same.refl _) S2 (Rps.cons (r1.mono s2) r2)
def evTup (es : List DE) : Ev := bnd (evDs es) fun ds => if ds.length ≤ 16777216 then vD (.tup ds) else fai
def evLst (es : List DE) : Ev := bnd (evDs es) fun ds => if ds.length ≤ 16777216 then pur (.c (.lst ds)) else fai
theorem pp_tup {X : Cx} {es : List Expr} {x1 : Nat} {r : List DE} {pos : Pos} (h : PA X es (TD K ct W (evDs r))) : PE X (.Tuple es x1 pos) (TP K ct W (evTup r)) := (pe_tup h).imp fun σ H Q h => by
  obtain ⟨fr, F, ρ, S, h⟩ := h
  refine Tat.bnd h S fun F1 H1 ρ1 vs ds s1 S1 r1 h => ?_
  have h : Tat K ct (RV K ct.ad) W fr F1 ρ1 (if ds.length ≤ 16777216 then vD (.tup ds) else fai) σ Q := h
  split at h
  · rename_i hz
    refine ⟨by rw [Rps.len r1]; exact hz, fun p hp => ?_⟩
    exact Tat.ok (a := Rv.d (.tup ds)) h _ (upd F1 p (.tup vs)) _ (same_up (S1.nn hp)) (S1.newD hp) (Rp.tup (SqT.of upd_same) (Rps.mono (same_up (S1.nn hp)) r1))
  · obtain ⟨_, _, e, _⟩ := h; cases e
theorem pp_lst {X : Cx} {es : List Expr} {r : List DE} {pos : Pos} (h : PA X es (TD K ct W (evDs r))) : PE X (.List es pos) (TP K ct W (evLst r)) := (pe_lst h).imp fun σ H Q h => by
  obtain ⟨fr, F, ρ, S, h⟩ := h
  refine Tat.bnd h S fun F1 H1 ρ1 vs ds s1 S1 r1 h => ?_
  have h : Tat K ct (RV K ct.ad) W fr F1 ρ1 (if ds.length ≤ 16777216 then pur (.c (.lst ds)) else fai) σ Q := h
  split at h
  · rename_i hz
    refine ⟨by rw [Rps.len r1]; exact hz, fun p hp => ?_⟩
    exact Tat.ok (a := Rv.c (.lst ds)) h _ F1 _ (Same.refl _) (S1.newC hp) ⟨p, rfl, S1.fresh hp ⟨_, upd_same, r1⟩⟩
  · obtain ⟨_, _, e, _⟩ := h; cases e
/-! ### texts that are put together -/
def dFmt : D → Option D
  | .str s => if s.length ≤ 16777216 then some (.str s) else none
  | .int i => if i.natAbs.log2 < 1920 then some (.str (toString i)) else none
  | _ => none
theorem pp_fmt {X : Cx} {e : Expr} {m : Ev} {pos : Pos} (he : PE X e (TP K ct W m)) : PE X (.FormattedValue e (-1) none pos) (TP K ct W (ev1 dFmt m)) := (pe_fmt he).imp fun σ H Q h => by
  obtain ⟨fr, F, ρ, S, h⟩ := h
  refine Tat.dat h S fun F1 H1 ρ1 v d s1 S1 r1 h => ?_
  obtain ⟨z, e1, q⟩ := h.opt
  obtain ⟨y, e2, rfl⟩ := map_some e1
  cases d with
  | str s =>
    have e2 : (if s.length ≤ 16777216 then some (D.str s) else none) = some y := e2
    split at e2
    · rename_i hz; cases e2; cases r1; exact .inl ⟨s, rfl, hz, q _ F1 H1 (Same.refl _) S1 (Rp.str _)⟩
    · cases e2
  | int i =>
    have e2 : (if i.natAbs.log2 < 1920 then some (D.str (toString i)) else none) = some y := e2
    split at e2
    · rename_i hz; cases e2; cases r1; exact .inr ⟨i, rfl, hz, q _ F1 H1 (Same.refl _) S1 (Rp.str _)⟩
    · cases e2
  | _ => cases e2
def evJs : List Ev → Str → M Str
  | [], acc => pur acc
  | m :: ms, acc => bnd (dat m) fun d => match d with | .str y => if (acc ++ y).length ≤ 16777216 then evJs ms (acc ++ y) else fai | _ => fai
variable (K ct) in
inductive PJs (X : Cx) (W : WX) : List Expr → List Ev → Prop where
  | nil : PJs X W [] []
  | cons {e : Expr} {m : Ev} {es : List Expr} {ms : List Ev} (h : PE X e (TP K ct W m)) (r : PJs X W es ms) : PJs X W (e :: es) (m :: ms)
theorem PJs.pj {X : Cx} : ∀ {es : List Expr} {ms : List Ev}, PJs K ct X W es ms → PJ X es (ms.map (TP K ct W))
  | _, _, .nil => .nil
  | _, _, .cons h r => .cons h r.pj
theorem w_js {fr : Fr} {Q : VK} : ∀ {ms : List Ev} {acc : Str} {F H : Hp} {ρ : List Sl}, Rel K ct fr F H σ ρ → Tat K ct (RV K ct.ad) W fr F ρ (bnd (evJs ms acc) fun s => vD (.str s)) σ Q → tJs (ms.map (TP K ct W)) acc σ H fun out H1 => Q (.str out) H1
  | [], acc, F, H, ρ, S, h => Tat.ok (a := Rv.d (.str acc)) h _ F H (Same.refl _) S (Rp.str _)
  | m :: ms, acc, F, H, ρ, S, h => by
    have e : bnd (evJs (m :: ms) acc) (fun s => vD (.str s)) = bnd (dat m) fun d => bnd (match d with | .str y => if (acc ++ y).length ≤ 16777216 then evJs ms (acc ++ y) else fai | _ => fai) fun s => vD (.str s) := by
      funext ρ
      show bnd (bnd (dat m) _) _ ρ = _
      unfold bnd
      cases em : dat m ρ with
      | none => rfl
      | some x =>
        obtain ⟨r1, ρ1⟩ := x
        cases r1 <;> rfl
    rw [e] at h
    refine Tat.dat h S fun F1 H1 ρ1 v d s1 S1 r1 h => ?_
    cases d with
    | str y =>
      cases r1
      have h : Tat K ct (RV K ct.ad) W fr F1 ρ1 (bnd (if (acc ++ y).length ≤ 16777216 then evJs ms (acc ++ y) else fai) fun s => vD (.str s)) σ Q := h
      split at h
      · rename_i hz
        exact ⟨y, rfl, hz, w_js S1 h⟩
      · obtain ⟨_, _, e, _⟩ := h; cases e
    | _ => obtain ⟨_, _, e, _⟩ := h; cases e
def evJn (ms : List Ev) : Ev := bnd (evJs ms Str.empty) fun s => vD (.str s)
theorem pp_joined {X : Cx} {v1 v2 : Expr} {rest : List Expr} {ms : List Ev} {pos : Pos} (h : PJs K ct X W (v1 :: v2 :: rest) ms) : PE X (.JoinedStr (v1 :: v2 :: rest) pos) (TP K ct W (evJn ms)) := (pe_joined h.pj).imp fun σ H Q h => by
  obtain ⟨fr, F, ρ, S, h⟩ := h
  exact w_js S h
def D.strs : List D → Option (List Str)
  | [] => some []
  | .str s :: r => (D.strs r).map (s :: ·)
  | _ :: _ => none
def D.ints : List D → Option (List Int)
  | [] => some []
  | .int s :: r => (D.ints r).map (s :: ·)
  | _ :: _ => none
def D.bools : List D → Option (List Bool)
  | [] => some []
  | .bl s :: r => (D.bools r).map (s :: ·)
  | _ :: _ => none
theorem D.strs_eq : ∀ {ds : List D} {ys : List Str}, D.strs ds = some ys → ds = ys.map D.str
  | [], _, h => by cases h; rfl
  | d :: ds, _, h => by
    cases d <;> try cases h
    obtain ⟨r, h1, rfl⟩ := map_some h
    rw [D.strs_eq h1]; rfl
theorem D.ints_eq : ∀ {ds : List D} {ys : List Int}, D.ints ds = some ys → ds = ys.map D.int
  | [], _, h => by cases h; rfl
  | d :: ds, _, h => by
    cases d <;> try cases h
    obtain ⟨r, h1, rfl⟩ := map_some h
    rw [D.ints_eq h1]; rfl
theorem D.strs_map : ∀ ys : List Str, D.strs (ys.map D.str) = some ys
  | [] => rfl
  | y :: ys => by rw [List.map_cons, D.strs, D.strs_map ys]; rfl
theorem D.ints_map : ∀ ys : List Int, D.ints (ys.map D.int) = some ys
  | [] => rfl
  | y :: ys => by rw [List.map_cons, D.ints, D.ints_map ys]; rfl
def dJoin (a : Str) (d : D) : Option D := (d.items.bind D.strs).bind fun ys => if (ys.map (·.length)).sum + ys.length * a.length ≤ 16777216 then some (.str (Txt.join a ys)) else none
def evJoin (o e : Ev) : Ev := bnd (dat o) fun x => match x with
  | .str a => bnd (dat e) fun d => opt ((dJoin a d).map Rv.d)
  | _ => fai
/-- how items lie: a list or a tuple -/
theorem Rp.seq {F H : Hp} {v : V} {d : D} {xs : List D} (s : Same F H) (r : Rp K ad F v d) (h : d.items = some xs) : ∃ p vs, v = .ref p ∧ (SqL K H p vs ∨ SqT K H p vs) ∧ Rps K ad F vs xs := by
  cases d <;> try cases h
  · cases r with | tup h k => exact ⟨_, _, rfl, .inr (sameT s h), k⟩
  · cases r with | lst h k => exact ⟨_, _, rfl, .inl (SqL.of (s _ _ h)), k⟩
  · cases r with | sq h k => exact ⟨_, _, rfl, .inl (s.seq h), k⟩
theorem pp_join {X : Cx} {o e : Expr} {fo fe : Ev} {apos pos : Pos} (eK : X.K = K) (ho : PE X o (TP K ct W fo)) (he : PE X e (TP K ct W fe)) (hs : starEach [e] X.env = [(false, eval e X.env)] := by rfl) (hbase : attributeBase o "join" X.env (eval o X.env) = eval o X.env := by rfl) (hline : (apos.endLine == pos.line) = true := by rfl) :
    PE X (.Call (.Attribute o "join" apos) [e] [] pos) (TP K ct W (evJoin fo fe)) := (pe_join ho he hs hbase hline).imp fun σ H Q h => by
  subst eK
  obtain ⟨fr, F, ρ, S, h⟩ := h
  refine Tat.dat h S fun F1 H1 ρ1 v d s1 S1 r1 h => ?_
  have sv : ∃ a, d = .str a := by
    cases d with
    | str a => exact ⟨a, rfl⟩
    | _ => obtain ⟨_, _, e, _⟩ := h; cases e
  obtain ⟨a, rfl⟩ := sv
  cases r1
  refine ⟨⟨a, rfl⟩, ?_⟩
  refine Tat.dat h S1 fun F2 H2 ρ2 u e s2 S2 r2 h => ?_
  obtain ⟨z, e1, q⟩ := h.opt
  obtain ⟨y, e2, rfl⟩ := map_some e1
  have e2 : ((e.items.bind D.strs).bind fun ys => if (ys.map (·.length)).sum + ys.length * a.length ≤ 16777216 then some (D.str (Txt.join a ys)) else none) = some y := e2
  cases e3 : e.items with
  | none => rw [e3] at e2; cases e2
  | some xs =>
    rw [e3] at e2
    cases e4 : D.strs xs with
    | none => rw [show (Option.some xs).bind D.strs = D.strs xs from rfl, e4] at e2; cases e2
    | some ys =>
      rw [show (Option.some xs).bind D.strs = D.strs xs from rfl, e4] at e2
      have e2 : (if (ys.map (·.length)).sum + ys.length * a.length ≤ 16777216 then some (D.str (Txt.join a ys)) else none) = some y := e2
      split at e2
      · rename_i hz
        cases e2
        obtain ⟨p, vs, rfl, hp, rx⟩ := r2.seq S2.fh e3
        rw [D.strs_eq e4] at rx
        rw [rx.strs] at hp
        exact ⟨a, p, ys, rfl, rfl, hp, hz, q _ F2 H2 (Same.refl _) S2 (Rp.str _)⟩
      · cases e2
end PL
end
section
namespace PL
open PySem PySem.Spec PyProof.Rows L2
variable {K : PySem.W.Frag} {ad : Cl → Addr} {ct : CT}
variable {fr : Fr} {F F' H H' : Hp} {σ : L2.St} {ρ : List Sl} {W : WX}
/-! ### defs -/
abbrev Fn := M Rv
variable (K ad) in
def spP (n : Nat) (G : Fn) : Sp := fun vs H Q E => vs.length = n ∧ ∃ fr F ss, Rel K (cx ad) fr F H (vs.map some) ss ∧ (∀ b, (∀ j, fr.pa j ≠ some b) → fr.P b = H b) ∧ fr.F0 = F ∧ Tat K (cx ad) (RV K ad) (fun cls d _ H' => E cls d H') fr F ss G (vs.map some) Q
variable (K ct) in
def Sat (W : WX) (D : Ends) (fr : Fr) (F : Hp) (ρ : List Sl) (s : M Fl) : Prop := ∃ r ρ', s ρ = some (r, ρ') ∧ match r with
  | .ok .nx => ∀ σ' F' H', Same F F' → Rel K ct fr F' H' σ' ρ' → D.nx σ' H'
  | .ok .bk => ∀ σ' F' H', Same F F' → Rel K ct fr F' H' σ' ρ' → D.bk σ' H'
  | .ok .ct => ∀ σ' F' H', Same F F' → Rel K ct fr F' H' σ' ρ' → D.ct σ' H'
  | .ok (.rt x) => ∀ σ' v F' H', Same F F' → Rel K ct fr F' H' σ' ρ' → RV K ct.ad fr F' H' σ' ρ' v x → D.rt v H'
  | .er c pl => ∀ σ' d F' H', Same F F' → Rel K ct fr F' H' σ' ρ' → PlR K ct.ad F' c pl d → W (.ref (ct.ad c)) d σ' H'
variable (K ct) in
def TSt (W : WX) (s : M Fl) : TS := fun D σ H => ∃ fr F ρ, Rel K ct fr F H σ ρ ∧ Sat K ct W D fr F ρ s
def outs : List Sl → List Sl → List Sl
  | .dat d :: ss, ρ => .dat d :: outs ss ρ.tail
  | .cel .par c :: ss, ρ => (ρ.head?.getD .un) :: outs ss ρ.tail
  | _ :: ss, ρ => .un :: outs ss ρ.tail
  | [], _ => []
theorem outs_len : ∀ (ss ρ : List Sl), (outs ss ρ).length = ss.length
  | [], _ => rfl
  | s :: ss, ρ => by cases s <;> first | exact congrArg (· + 1) (outs_len ss _) | (rename_i k c; cases k <;> exact congrArg (· + 1) (outs_len ss _))
theorem outs_get : ∀ (ss ρ : List Sl) (i : Nat) (s : Sl), (outs ss ρ)[i]? = some s → (∃ d, ss[i]? = some (.dat d) ∧ s = .dat d) ∨ (∃ c, ss[i]? = some (.cel .par c) ∧ s = (ρ[i]?).getD .un) ∨ s = .un
  | [], _, _, _, h => by simp [outs] at h
  | x :: ss, ρ, 0, s, h => by
    cases x with
    | dat d => simp only [outs, List.getElem?_cons_zero, Option.some.injEq] at h; exact .inl ⟨d, rfl, h.symm⟩
    | cel k c =>
      cases k <;> simp only [outs, List.getElem?_cons_zero, Option.some.injEq] at h
      all_goals first
        | exact .inr (.inr h.symm)
        | (refine .inr (.inl ⟨c, rfl, ?_⟩); rw [← h]; cases ρ <;> rfl)
    | un => simp only [outs, List.getElem?_cons_zero, Option.some.injEq] at h; exact .inr (.inr h.symm)
    | exn c pl => simp only [outs, List.getElem?_cons_zero, Option.some.injEq] at h; exact .inr (.inr h.symm)
  | x :: ss, ρ, i + 1, s, h => by
    have e : (outs (x :: ss) ρ)[i + 1]? = (outs ss ρ.tail)[i]? := by
      cases x <;> first | rfl | (rename_i k c; cases k <;> rfl)
    rw [e] at h
    have t : ρ.tail[i]? = ρ[i + 1]? := by cases ρ <;> simp
    have z := outs_get ss ρ.tail i s h
    rw [t] at z
    simpa using z
theorem outs_par : ∀ (ss ρ : List Sl) (i : Nat) (c : CC), ss[i]? = some (.cel .par c) → (outs ss ρ)[i]? = some ((ρ[i]?).getD .un)
  | [], _, _, _, h =>
    by simp at h
  | x :: ss, ρ, 0, c, h => by
    (simp only [List.getElem?_cons_zero, Option.some.injEq] at h)
    subst h
    cases ρ <;> rfl
  | x :: ss, ρ, i + 1, c, h => by
    have e : (outs (x :: ss) ρ)[i + 1]? = (outs ss ρ.tail)[i]? := by
      cases x <;> first | rfl | (rename_i k c; cases k <;> rfl)
    have t : ρ.tail[i]? = ρ[i + 1]? := by cases ρ <;> simp
    rw [e, outs_par ss ρ.tail i c (by simpa using h), t]
def runB (k : Nat) (s : M Fl) : Fn := fun ss => match s (ss ++ List.replicate k .un) with
  | some (.ok .nx, ρ) => some (.ok (.d .non), outs ss ρ)
  | some (.ok (.rt r), ρ) => some (.ok r, outs ss ρ)
  | some (.er c pl, ρ) => some (.er c pl, outs ss ρ)
  | _ => none
theorem Rel.outs {fr : Fr} {F F' H H' : Hp} {vs : List V} {ss : List Sl} {σ' : L2.St} {ρ' : List Sl} (S : Rel K ct fr F H (vs.map some) ss) (S' : Rel K ct fr F' H' σ' ρ') (s : Same F F') : Rel K ct fr F' H' (vs.map some) (PL.outs ss ρ') := by
  have cl : ∀ {i : Nat} {k : CK} {c : CC}, (PL.outs ss ρ')[i]? = some (.cel k c) → ∃ c0 p, ss[i]? = some (.cel .par c0) ∧ ρ'[i]? = some (.cel k c) ∧ fr.pa i = some p ∧ (vs.map some)[i]? = some (some (.ref p)) := fun {i k c} e => by
    rcases outs_get ss ρ' i _ e with ⟨d, _, z⟩ | ⟨c0, h1, h2⟩ | z
    · cases z
    · have h3 : ρ'[i]? = some (.cel k c) := by
        cases q : ρ'[i]? with
        | none => rw [q] at h2; cases h2
        | some x => rw [q] at h2; exact congrArg some h2.symm
      obtain ⟨o, g1, p, g2, g3, g4, g5, g6, g7⟩ := S.slot i _ h1
      subst g2
      exact ⟨c0, p, h1, h3, g5 rfl, g1⟩
    · cases z
  refine ⟨by rw [outs_len]; exact S.len, S'.fh, fun i s0 e => ?_, fun i j k c k' c' p e1 e2 h1 h2 => ?_, S'.keep, S'.fro, fun i p e => ?_⟩
  · rcases outs_get ss ρ' i _ e with ⟨d, h1, rfl⟩ | ⟨c0, h1, h2⟩ | rfl
    · obtain ⟨o, g1, v, g2, g3⟩ := S.slot i _ h1
      exact ⟨o, g1, v, g2, g3.mono s⟩
    · obtain ⟨o, g1, p, g2, g3, g4, g5, g6, g7⟩ := S.slot i _ h1
      have pi := g5 rfl
      obtain ⟨k, c, q1, q2⟩ := S'.pcs i p pi
      rw [q1] at h2
      have h2 : s0 = .cel k c := h2
      subst h2
      obtain ⟨o', w1, p', w2, w3, w4, w5, w6, w7⟩ := S'.slot i _ q1
      have := w5 q2
      rw [pi] at this
      cases this
      subst g2
      exact ⟨_, g1, _, rfl, w3, w4, w5, w6, w7⟩
    · obtain ⟨l, _⟩ := List.getElem?_eq_some_iff.mp e
      rw [outs_len, ← S.len] at l
      exact ⟨_, List.getElem?_eq_getElem l, trivial⟩
  · obtain ⟨_, _, a1, _, _, _⟩ := cl e1
    obtain ⟨_, _, a2, _, _, _⟩ := cl e2
    exact S.dis i j _ _ _ _ p a1 a2 h1 h2
  · obtain ⟨k, c, h1, h2⟩ := S.pcs i p e
    obtain ⟨k', c', q1, q2⟩ := S'.pcs i p e
    have hk : k = .par := by cases k <;> simp [CK.isPar] at h2 ⊢
    subst hk
    obtain ⟨l, _⟩ := List.getElem?_eq_some_iff.mp h1
    have l2 : i < (PL.outs ss ρ').length := by rw [outs_len]; exact l
    rcases outs_get ss ρ' i _ (List.getElem?_eq_getElem l2) with ⟨d, z, _⟩ | ⟨c0, z1, z2⟩ | z
    · rw [h1] at z; cases z
    · refine ⟨k', c', ?_, q2⟩
      rw [List.getElem?_eq_getElem l2, z2, q1]; rfl
    · obtain ⟨o, g1, p', g2, g3, g4, g5, g6, g7⟩ := S.slot i _ h1
      have e2 := outs_par ss ρ' i c h1
      rw [List.getElem?_eq_getElem l2, z, q1] at e2
      cases e2
/-- the end of a body is the def's end -/
theorem body_end {n k : Nat} {s : M Fl} {vs : List V} {N : List Str} {H : Hp} {Q : VK} {E : XK} (hN : N.length = n + k) (h : spP K ad n (runB k s) vs H Q E) :
    TSt K (cx ad) (fun cls d _ H' => E cls d H') s { nx := fun _ H' => Q .non H', rt := Q } (L2.start N vs) H := by
  obtain ⟨hn, fr, F, ss, S, hP, hF, r, ss', e, q⟩ := h
  have S0 : Rel K (cx ad) fr F H (L2.start N vs) (ss ++ List.replicate k .un) := by
    have l1 : vs.length = ss.length := by have := S.len; rw [List.length_map] at this; exact this
    have ek : N.length - vs.length = k := by omega
    unfold L2.start
    rw [ek]
    have cel : ∀ {i : Nat} {k' : CK} {c : CC}, (ss ++ List.replicate k Sl.un)[i]? = some (.cel k' c) → ss[i]? = some (.cel k' c) := fun {i k' c} z => by
      by_cases l : i < ss.length
      · rw [List.getElem?_append_left l] at z; exact z
      · rw [List.getElem?_append_right (by omega), List.getElem?_replicate] at z
        split at z <;> cases z
    have get : ∀ {i : Nat}, i < ss.length → (vs.map some ++ List.replicate k (none : Option V))[i]? = (vs.map some)[i]? := fun {i} l => List.getElem?_append_left (by rw [List.length_map]; omega)
    refine ⟨by simp [l1], S.fh, fun i s0 z => ?_, fun i j k1 c k2 c' p z1 z2 z3 z4 => ?_, S.keep, S.fro, fun i p z => ?_⟩
    · by_cases l : i < ss.length
      · rw [List.getElem?_append_left l] at z
        obtain ⟨o, g1, g2⟩ := S.slot i s0 z
        exact ⟨o, by rw [get l]; exact g1, g2⟩
      · have l3 := (List.getElem?_eq_some_iff.mp z).1
        rw [List.getElem?_append_right (by omega), List.getElem?_replicate] at z
        split at z
        · cases z
          refine ⟨none, ?_, trivial⟩
          rw [List.getElem?_append_right (by rw [List.length_map]; omega), List.getElem?_replicate, if_pos (by simp at l3 ⊢; omega)]
        · cases z
    · have y1 := cel z1
      have y2 := cel z2
      rw [get (List.getElem?_eq_some_iff.mp y1).1] at z3
      rw [get (List.getElem?_eq_some_iff.mp y2).1] at z4
      exact S.dis i j _ _ _ _ p y1 y2 z3 z4
    · obtain ⟨k1, c, h1, h2⟩ := S.pcs i p z
      exact ⟨k1, c, by rw [List.getElem?_append_left (List.getElem?_eq_some_iff.mp h1).1]; exact h1, h2⟩
  refine ⟨fr, F, _, S0, ?_⟩
  unfold runB at e
  cases em : s (ss ++ List.replicate k .un) with
  | none => rw [em] at e; cases e
  | some x =>
    obtain ⟨r1, ρ1⟩ := x
    rw [em] at e
    refine ⟨r1, ρ1, em, ?_⟩
    cases r1 with
    | er c pl =>
      cases e
      exact fun σ' d F' H' s' S' pr => q d F' H' s' (S.outs S' s') pr
    | ok fl =>
      cases fl with
      | nx => cases e; exact fun σ' F' H' s' S' => q _ F' H' s' (S.outs S' s') Rp.non
      | bk => cases e
      | ct => cases e
      | rt x =>
        cases e
        intro σ' v F' H' s' S' rv
        refine q v F' H' s' (S.outs S' s') ?_
        cases x with
        | d d => exact rv
        | c c =>
          obtain ⟨p, ev, f1, f2, f3, f4, f5⟩ := rv
          refine ⟨p, ev, f1, f2, f3, f4, fun i k' c' z1 z2 => ?_⟩
          have S2 := S.outs S' s'
          obtain ⟨o, g1, p', g2, g3, g4, g5, g6, g7⟩ := S2.slot i _ z1
          rw [g1] at z2
          subst g2
          cases z2
          rcases outs_get ss ρ1 i _ z1 with ⟨d, _, w⟩ | ⟨c0, w1, w2⟩ | w
          · cases w
          · obtain ⟨o, y1, p2, y2, y3, y4, y5, y6, y7⟩ := S.slot i _ w1
            subst y2
            rw [g1] at y1
            cases y1
            exact f3 i (y5 rfl)
          · cases w
section
variable {P : Program} {w : World} {mg : Str → Option Value} {base : Heap} {x qual : Str} {st : Stmt} {f : Addr} {fd : FuncData} {N ps : List Str} {lv : Nat} {n k : Nat} {s : M Fl}
theorem okX (Fd : L2.Fun K x qual st f fd) (S : FnScope N ps (defScope st)) (hp : ps.length = n) (hN : N.length = n + k)
    (hb : ∀ (cdv : Value) (A : Around) (outer : List Env) (s0 : Shared) (H : Hp) (E : XK), Room lv (A.deeper (envOfC qual (defScope st) s0.heap.objs.size f cdv)) →
      PSs (cxOf (L2.CX P w) P w K mg base N qual (defScope st) f cdv A outer s0 H E) (defBody st) (TSt K (cx ad) (fun cls d _ H' => E cls d H') s)) : FnOk P w K mg base (L2.CX P w) (lv + 1) f fd ps (spP K ad n (runB k s)) :=
  Fd.okX S (fun vs H Q E h => by rw [hp]; exact h.1) fun cdv A outer s0 H vs Q E hr h => ⟨_, hb cdv A outer s0 H E hr, body_end hN h⟩
end
/-! ### calls -/
inductive AE | e (m : Ev) | c (j : Nat)
def evAs : List AE → M (List Ar)
  | [] => pur []
  | .e m :: r => bnd (dat m) fun d => bnd (evAs r) fun as => pur (.d d :: as)
  | .c j :: r => fun ρ => match ρ[j]? with
    | some (.cel _ _) => bnd (evAs r) (fun as => pur (.c j :: as)) ρ
    | _ => none
def argSl (ρ : List Sl) : List Ar → Option (List Sl)
  | [] => some []
  | .d d :: r => (argSl ρ r).map (.dat d :: ·)
  | .c j :: r => match ρ[j]? with
    | some (.cel _ c) => (argSl ρ r).map (.cel .par c :: ·)
    | _ => none
def celsOf : List Ar → List Nat
  | [] => []
  | .d _ :: r => celsOf r
  | .c j :: r => j :: celsOf r
def newc : List Ar → List Sl → Nat → Option CC
  | .c j :: ar, .cel _ c :: ss, i => match newc ar ss i with | some c' => some c' | none => if i = j then some c else none
  | _ :: ar, _ :: ss, i => newc ar ss i
  | _, _, _ => none
def updc (ρ : List Sl) (j : Nat) (c : CC) : List Sl := match ρ[j]? with
  | some (.cel k _) => ρ.set j (.cel k c)
  | _ => ρ
def back (ρ : List Sl) : List Ar → List Sl → List Sl
  | .c j :: ar, .cel _ c :: ss => back (updc ρ j c) ar ss
  | _ :: ar, _ :: ss => back ρ ar ss
  | _, _ => ρ
def callG (n : Nat) (G : Fn) (ar : List Ar) : Ev := fun ρ => match argSl ρ ar with
  | none => none
  | some ss => if ar.length = n ∧ (celsOf ar).Nodup then match G ss with
      | none => none
      | some (r, ss') => some (r, back ρ ar ss')
    else none
def evCall (n : Nat) (G : Fn) (as : List AE) (ds : List D := []) : Ev := bnd (evAs as) fun ar => callG n G (ar ++ ds.map .d)
/-- a result that is no exception -/
def noEr {α : Type} (m : M α) : M α := fun ρ => match m ρ with | some (.ok a, ρ') => some (.ok a, ρ') | _ => none
theorem updc_get (ρ : List Sl) (j : Nat) (c : CC) (i : Nat) : (updc ρ j c)[i]? = (ρ[i]?).map fun s => match s with | .cel k c0 => .cel k (if i = j then c else c0) | s => s := by
  unfold updc
  split
  · rename_i k c0 h
    by_cases q : j = i
    · subst q
      rw [List.getElem?_set_self (List.getElem?_eq_some_iff.mp h).1, h]
      simp
    · rw [List.getElem?_set_ne q]
      cases e : ρ[i]? with
      | none => rfl
      | some s => cases s <;> simp [show ¬ i = j from fun z => q z.symm]
  · rename_i h
    cases e : ρ[i]? with
    | none => rfl
    | some s =>
      cases s <;> try rfl
      rename_i k c0
      by_cases q : i = j
      · subst q
        exact absurd e (h _ _)
      · simp [q]
theorem back_get : ∀ (ar : List Ar) (ss ρ : List Sl) (i : Nat), (back ρ ar ss)[i]? = (ρ[i]?).map fun s => match s with | .cel k c0 => .cel k ((newc ar ss i).getD c0) | s => s
  | [], ss, ρ, i => by
    cases e : ρ[i]? with
    | none => simp [back, e]
    | some s => cases s <;> simp [back, e, newc]
  | a :: ar, [], ρ, i => by
    cases e : ρ[i]? with
    | none => cases a <;> simp [back, e]
    | some s => cases a <;> cases s <;> simp [back, e, newc]
  | .d d :: ar, s :: ss, ρ, i => by
    rw [show back ρ (.d d :: ar) (s :: ss) = back ρ ar ss from rfl, back_get ar ss ρ i]
    rfl
  | .c j :: ar, s :: ss, ρ, i => by
    cases s with
    | cel k c =>
      rw [show back ρ (.c j :: ar) (.cel k c :: ss) = back (updc ρ j c) ar ss from rfl, back_get ar ss _ i, updc_get]
      cases e : ρ[i]? with
      | none => rfl
      | some s =>
        cases s <;> try rfl
        rename_i k0 c0
        simp only [Option.map_some, newc]
        cases newc ar ss i with
        | some c' => rfl
        | none => by_cases q : i = j <;> simp [q]
    | _ => rw [show back ρ (.c j :: ar) (_ :: ss) = back ρ ar ss from rfl, back_get ar ss ρ i]; rfl
theorem newc_some : ∀ {ar : List Ar} {ss : List Sl} {i : Nat} {c : CC}, newc ar ss i = some c → ∃ (q : Nat) (k : CK), ar[q]? = some (Ar.c i) ∧ ss[q]? = some (Sl.cel k c)
  | [], _, _, _, h => by simp [newc] at h
  | .d _ :: _, [], _, _, h => by simp [newc] at h
  | .c _ :: _, [], _, _, h => by simp [newc] at h
  | .d d :: ar, s :: ss, i, c, h => by
    have h : newc ar ss i = some c := h
    obtain ⟨q, k, h1, h2⟩ := newc_some h
    exact ⟨q + 1, k, by simpa using h1, by simpa using h2⟩
  | .c j :: ar, s :: ss, i, c, h => by
    have back' : newc ar ss i = some c → ∃ (q : Nat) (k : CK), (Ar.c j :: ar)[q]? = some (Ar.c i) ∧ (s :: ss)[q]? = some (Sl.cel k c) := fun h => by
      obtain ⟨q, k, h1, h2⟩ := newc_some h
      exact ⟨q + 1, k, by simpa using h1, by simpa using h2⟩
    cases s with
    | cel k c0 =>
      cases en : newc ar ss i with
      | some c' =>
        have h2 : (match newc ar ss i with | some c' => some c' | none => if i = j then some c0 else none) = some c := h
        rw [en] at h2
        exact back' (en.trans h2)
      | none =>
        have h2 : (match newc ar ss i with | some c' => some c' | none => if i = j then some c0 else none) = some c := h
        rw [en] at h2
        have h3 : (if i = j then some c0 else none) = some c := h2
        by_cases q : i = j
        · rw [if_pos q] at h3
          cases h3
          exact ⟨0, k, by rw [q]; rfl, rfl⟩
        · rw [if_neg q] at h3
          cases h3
    | _ => exact back' h
theorem newc_of : ∀ {ar : List Ar} {ss : List Sl} {i q : Nat} {k : CK} {c : CC}, ar[q]? = some (.c i) → ss[q]? = some (.cel k c) → ∃ c', newc ar ss i = some c'
  | [], _, _, _, _, _, h, _ =>
    by simp at h
  | _ :: _, [], _, _, _, _, _, h =>
    by simp at h
  | a :: ar, s :: ss, i, 0, k, c, h1, h2 => by
    simp only [List.getElem?_cons_zero, Option.some.injEq] at h1 h2
    subst h1 h2
    show ∃ c', (match newc ar ss i with | some c' => some c' | none => if i = i then some c else none) = some c'
    split
    · exact ⟨_, rfl⟩
    · exact ⟨c, by simp⟩
  | a :: ar, s :: ss, i, q + 1, k, c, h1, h2 => by
    obtain ⟨c', e⟩ := newc_of (ar := ar) (ss := ss) (i := i) (q := q) (by simpa using h1) (by simpa using h2)
    cases a with
    | d d => exact ⟨c', e⟩
    | c j =>
      cases s with
      | cel k0 c0 =>
        show ∃ c', (match newc ar ss i with | some c' => some c' | none => if i = j then some c0 else none) = some c'
        rw [e]
        exact ⟨c', rfl⟩
      | _ => exact ⟨c', e⟩
theorem argSl_len {ρ : List Sl} : ∀ {ar : List Ar} {ss : List Sl}, argSl ρ ar = some ss → ss.length = ar.length
  | [], _, h => by cases h; rfl
  | .d d :: r, _, h => by
    obtain ⟨s, h1, rfl⟩ := map_some h
    exact congrArg (· + 1) (argSl_len h1)
  | .c j :: r, _, h => by
    unfold argSl at h
    split at h
    · obtain ⟨s, h1, rfl⟩ := map_some h
      exact congrArg (· + 1) (argSl_len h1)
    · cases h
theorem argSl_get {ρ : List Sl} : ∀ {ar : List Ar} {ss : List Sl} {i : Nat}, argSl ρ ar = some ss → i < ar.length → (∃ d, ar[i]? = some (.d d) ∧ ss[i]? = some (.dat d)) ∨ ∃ j k c, ar[i]? = some (.c j) ∧ ρ[j]? = some (.cel k c) ∧ ss[i]? = some (.cel .par c)
  | [], _, _, _, l =>
    by simp at l
  | .d d :: r, _, i, h, l => by
    obtain ⟨s, h1, rfl⟩ := map_some h
    cases i with
    | zero => exact .inl ⟨d, rfl, rfl⟩
    | succ i => simpa using argSl_get (i := i) h1 (by simpa using l)
  | .c j :: r, _, i, h, l => by
    unfold argSl at h
    split at h
    · rename_i k c e
      obtain ⟨s, h1, rfl⟩ := map_some h
      cases i with
      | zero => exact .inr ⟨j, k, c, rfl, e, rfl⟩
      | succ i => simpa using argSl_get (i := i) h1 (by simpa using l)
    · cases h
theorem celsOf_inj : ∀ {ar : List Ar} {p q j : Nat}, (celsOf ar).Nodup → ar[p]? = some (.c j) → ar[q]? = some (.c j) → p = q := by
  intro ar
  have mem : ∀ {ar : List Ar} {q j : Nat}, ar[q]? = some (.c j) → j ∈ celsOf ar := by
    intro ar
    induction ar with
    | nil => intro q j h; simp at h
    | cons a ar ih =>
      intro q j h
      cases q with
      | zero => simp only [List.getElem?_cons_zero, Option.some.injEq] at h; subst h; exact List.mem_cons_self
      | succ q =>
        have z := ih (q := q) (by simpa using h)
        cases a with
        | d _ => exact z
        | c _ => exact List.mem_cons_of_mem _ z
  induction ar with
  | nil => intro p q j _ h; simp at h
  | cons a ar ih =>
    intro p q j nd h1 h2
    cases a with
    | d _ =>
      cases p with
      | zero => simp at h1
      | succ p =>
        cases q with
        | zero => simp at h2
        | succ q => rw [ih nd (p := p) (q := q) (by simpa using h1) (by simpa using h2)]
    | c j0 =>
      have nd : (j0 :: celsOf ar).Nodup := nd
      rw [List.nodup_cons] at nd
      cases p with
      | zero =>
        cases q with
        | zero => rfl
        | succ q =>
          simp only [List.getElem?_cons_zero, Option.some.injEq, Ar.c.injEq] at h1
          subst h1
          exact absurd (mem (q := q) (by simpa using h2)) nd.1
      | succ p =>
        cases q with
        | zero =>
          simp only [List.getElem?_cons_zero, Option.some.injEq, Ar.c.injEq] at h2
          subst h2
          exact absurd (mem (q := p) (by simpa using h1)) nd.1
        | succ q => rw [ih nd.2 (p := p) (q := q) (by simpa using h1) (by simpa using h2)]
theorem RAs.get {F : Hp} {σ : L2.St} : ∀ {vs : List V} {as : List Ar} {i : Nat} {a : Ar}, RAs K ct.ad F σ vs as → as[i]? = some a → ∃ v, vs[i]? = some v ∧ RA1 K ct.ad F σ v a
  | _, _, _, _, .nil, e =>
    by simp at e
  | _, _, 0, _, .cons h _, e => by simp at e; subst e; exact ⟨_, rfl, h⟩
  | _, _, i + 1, a, .cons _ t, e => by
    obtain ⟨v, h1, h2⟩ := RAs.get (i := i) (a := a) t (by simpa using e)
    exact ⟨v, by simpa using h1, h2⟩
theorem RAs.len {F : Hp} {σ : L2.St} : ∀ {vs : List V} {as : List Ar}, RAs K ct.ad F σ vs as → vs.length = as.length
  | _, _, .nil => rfl
  | _, _, .cons _ r => congrArg (· + 1) r.len
open Classical in
/-- the frame of a call -/
noncomputable def callFr (F H : Hp) (σ : L2.St) (ar : List Ar) : Fr :=
  let pa : Nat → Option Addr := fun i => match ar[i]? with
    | some (.c j) => (match σ[j]? with | some (some (.ref p)) => some p | _ => none)
    | _ => none
  ⟨fun b => if ∃ i, pa i = some b then none else H b, F, pa⟩
theorem callFr_pa {F H : Hp} {σ : L2.St} {ar : List Ar} {i p : Nat} (h : (callFr F H σ ar).pa i = some p) : ∃ j, ar[i]? = some (.c j) ∧ σ[j]? = some (some (.ref p)) := by
  have h : (match ar[i]? with | some (.c j) => (match σ[j]? with | some (some (.ref p)) => some p | _ => none) | _ => none) = some p := h
  split at h
  · rename_i j e
    split at h
    · rename_i q e2; cases h; exact ⟨j, e, e2⟩
    · cases h
  · cases h
theorem callFr_of {F H : Hp} {σ : L2.St} {ar : List Ar} {i j p : Nat} (h : ar[i]? = some (.c j)) (h2 : σ[j]? = some (some (.ref p))) : (callFr F H σ ar).pa i = some p := by
  show (match ar[i]? with | some (.c j) => (match σ[j]? with | some (some (.ref p)) => some p | _ => none) | _ => none) = some p
  rw [h]
  show (match σ[j]? with | some (some (.ref p)) => some p | _ => none) = some p
  rw [h2]
open Classical in
theorem callFr_P {F H : Hp} {σ : L2.St} {ar : List Ar} {b : Addr} (h : ∀ i, (callFr F H σ ar).pa i ≠ some b) : (callFr F H σ ar).P b = H b := by
  show (if ∃ i, (callFr F H σ ar).pa i = some b then none else H b) = H b
  exact if_neg (fun ⟨i, e⟩ => h i e)
open Classical in
theorem callFr_N {F H : Hp} {σ : L2.St} {ar : List Ar} {b : Addr} {i : Nat} (h : (callFr F H σ ar).pa i = some b) : (callFr F H σ ar).P b = none := by
  show (if ∃ i, (callFr F H σ ar).pa i = some b then none else H b) = none
  exact if_pos ⟨i, h⟩
/-- into a call -/
theorem Rel.enter {vs : List V} {ar : List Ar} {ss : List Sl} (S : Rel K ct fr F H σ ρ) (r : RAs K ct.ad F σ vs ar) (e : argSl ρ ar = some ss) (nd : (celsOf ar).Nodup) : Rel K (cx ct.ad) (callFr F H σ ar) F H (vs.map some) ss := by
  have ls := argSl_len e
  have lv := r.len
  have cel : ∀ {i : Nat} {k : CK} {c : CC}, ss[i]? = some (.cel k c) → k = .par ∧ ∃ j k0 p, ar[i]? = some (.c j) ∧ ρ[j]? = some (.cel k0 c) ∧ σ[j]? = some (some (.ref p)) ∧ vs[i]? = some (.ref p) ∧ F p = none ∧ CelR K ct.ad F H p c := fun {i k c} z => by
    have l := (List.getElem?_eq_some_iff.mp z).1
    rcases argSl_get (i := i) e (by omega) with ⟨d, h1, h2⟩ | ⟨j, k0, c0, h1, h2, h3⟩
    · rw [z] at h2; cases h2
    · rw [z] at h3
      cases h3
      obtain ⟨v, g1, g2⟩ := r.get h1
      obtain ⟨o, q1, p, q2, q3, q4, q5, q6, q7⟩ := S.slot j _ h2
      subst q2
      have g2 : σ[j]? = some (some v) := g2
      rw [q1] at g2
      cases g2
      exact ⟨rfl, j, k0, p, h1, h2, q1, g1, q3, q7⟩
  refine ⟨by rw [List.length_map]; omega, S.fh, fun i s z => ?_, fun i i' k c k' c' p z1 z2 z3 z4 => ?_, fun b o z => ?_, fun b _ z => z, fun i p z => ?_⟩
  · have l := (List.getElem?_eq_some_iff.mp z).1
    rcases argSl_get (i := i) e (by omega) with ⟨d, h1, h2⟩ | ⟨j, k0, c0, h1, h2, h3⟩
    · rw [z] at h2
      cases h2
      obtain ⟨v, g1, g2⟩ := r.get h1
      exact ⟨some v, by rw [List.getElem?_map, g1]; rfl, v, rfl, g2⟩
    · rw [z] at h3
      cases h3
      obtain ⟨_, j', k0', p, a1, a2, a3, a4, a5, a6⟩ := cel z
      have pa := callFr_of (F := F) (H := H) a1 a3
      exact ⟨some (.ref p), by rw [List.getElem?_map, a4]; rfl, p, rfl, a5, callFr_N pa, fun _ => pa, (fun w => by cases w), a6⟩
  ·
    obtain ⟨_, j, k0, p1, a1, a2, a3, a4, _⟩ := cel z1
    obtain ⟨_, j', k0', p2, b1, b2, b3, b4, _⟩ := cel z2
    rw [List.getElem?_map, a4] at z3
    rw [List.getElem?_map, b4] at z4
    cases z3
    cases z4
    have := S.dis j j' _ _ _ _ _ a2 b2 a3 b3
    subst this
    exact celsOf_inj nd a1 b1
  · by_cases w : ∃ i, (callFr F H σ ar).pa i = some b
    · obtain ⟨i, w⟩ := w; rw [callFr_N w] at z; cases z
    · rw [callFr_P (fun i q => w ⟨i, q⟩)] at z; exact z
  · obtain ⟨j, h1, h2⟩ := callFr_pa z
    have l := (List.getElem?_eq_some_iff.mp h1).1
    rcases argSl_get (i := i) e l with ⟨d, g1, g2⟩ | ⟨j', k0, c0, g1, g2, g3⟩
    · rw [h1] at g1; cases g1
    · exact ⟨.par, c0, g3, rfl⟩
/-- out of a call -/
theorem Rel.leave {vs : List V} {ar : List Ar} {ss ss' : List Sl} (S : Rel K ct fr F H σ ρ) (r : RAs K ct.ad F σ vs ar) (e : argSl ρ ar = some ss) (s : Same F F') (R : Rel K (cx ct.ad) (callFr F H σ ar) F' H' (vs.map some) ss') :
    Rel K ct fr F' H' σ (back ρ ar ss') ∧ ∀ p c, Fresh K ct.ad (callFr F H σ ar) F' H' (vs.map some) ss' p c → Fresh K ct.ad fr F' H' σ (back ρ ar ss') p c := by
  have lv := r.len
  -- what stands at a passed cell
  have passed : ∀ {q b : Nat}, (callFr F H σ ar).pa q = some b → ∃ j k c, ar[q]? = some (.c j) ∧ σ[j]? = some (some (.ref b)) ∧ ρ[j]? = some (.cel k c) := fun {q b} z => by
    obtain ⟨j, h1, h2⟩ := callFr_pa z
    rcases argSl_get (i := q) e (List.getElem?_eq_some_iff.mp h1).1 with ⟨d, g1, g2⟩ | ⟨j', k0, c0, g1, g2, g3⟩
    · rw [h1] at g1; cases g1
    · rw [h1] at g1; cases g1; exact ⟨j, k0, c0, h1, h2, g2⟩
  have notP : ∀ {b : Addr} {o : HO}, fr.P b = some o → ∀ q, (callFr F H σ ar).pa q ≠ some b := fun {b o} z q w => by
    obtain ⟨j, k, c, h1, h2, h3⟩ := passed w
    obtain ⟨o', q1, p, q2, q3, q4, q5, q6, q7⟩ := S.slot j _ h3
    rw [q1] at h2
    cases q2
    cases h2
    rw [q4] at z
    cases z
  have bk : ∀ {i : Nat} {k : CK} {c : CC}, (back ρ ar ss')[i]? = some (.cel k c) → ∃ c0, ρ[i]? = some (.cel k c0) := fun {i k c} z => by
    rw [back_get] at z
    cases q : ρ[i]? with
    | none => rw [q] at z; cases z
    | some x =>
      rw [q] at z
      cases x <;> simp only [Option.map_some, Option.some.injEq] at z <;> try cases z
      exact ⟨_, rfl⟩
  have lenb : (back ρ ar ss').length = ρ.length := by
    have h1 : ∀ i, (back ρ ar ss')[i]? = none ↔ ρ[i]? = none := fun i => by rw [back_get]; cases ρ[i]? <;> simp
    have a := (h1 ρ.length).mpr (by simp)
    have b := (h1 (back ρ ar ss').length).mp (by simp)
    rw [List.getElem?_eq_none_iff] at a b
    omega
  refine ⟨⟨by rw [lenb]; exact S.len, R.fh, fun i s0 z => ?_, fun i j k c k' c' p z1 z2 z3 z4 => ?_, fun b o z => ?_, fun b hb h0 => ?_, fun i p z => ?_⟩, fun p c f => ?_⟩
  · rw [back_get] at z
    cases q : ρ[i]? with
    | none => rw [q] at z; cases z
    | some x =>
      rw [q] at z
      obtain ⟨o, g1, g2⟩ := S.slot i x q
      refine ⟨o, g1, ?_⟩
      cases x with
      | un => cases z; trivial
      | dat d => cases z; obtain ⟨v, a1, a2⟩ := g2; exact ⟨v, a1, a2.mono s⟩
      | exn c pl => cases z; exact ⟨g2.1, g2.2.1, g2.2.2.mono s⟩
      | cel k c0 =>
        simp only [Option.map_some, Option.some.injEq] at z
        subst z
        obtain ⟨p, a1, a2, a3, a4, a5, a6⟩ := g2
        subst a1
        cases hn : newc ar ss' i with
        | some c' =>
          obtain ⟨w, k1, h1, h2⟩ := newc_some hn
          have pa := callFr_of (F := F) (H := H) h1 g1
          obtain ⟨o1, b1, p1, b2, b3, b4, b5, b6, b7⟩ := R.slot w _ h2
          obtain ⟨k2, c2, d1, d2⟩ := R.pcs w p pa
          rw [h2] at d1
          cases d1
          have := b5 d2
          rw [pa] at this
          cases this
          exact ⟨_, rfl, b3, a3, a4, a5, b7⟩
        | none =>
          have np : ∀ w, (callFr F H σ ar).pa w ≠ some p := fun w y => by
            obtain ⟨j, k2, c2, h1, h2, h3⟩ := passed y
            have := S.dis i j _ _ _ _ p q h3 g1 h2
            subst this
            obtain ⟨k3, c3, d1, d2⟩ := R.pcs w p y
            obtain ⟨c4, d3⟩ := newc_of h1 d1
            rw [hn] at d3
            cases d3
          obtain ⟨u, hu⟩ := a6.at
          have hP : (callFr F H σ ar).P p = some u := by rw [callFr_P np, hu]
          have h' := R.keep p u hP
          have f' : F' p = none := R.fro p (by rw [hP]; simp) a2
          exact ⟨p, rfl, f', a3, a4, a5, a6.keep s (by rw [h', hu])⟩
  · obtain ⟨_, y1⟩ := bk z1
    obtain ⟨_, y2⟩ := bk z2
    exact S.dis i j _ _ _ _ p y1 y2 z3 z4
  · exact R.keep b o (by rw [callFr_P (notP z)]; exact S.keep b o z)
  · have fb := S.fro b hb h0
    cases w : fr.P b with
    | none => exact absurd w hb
    | some o => exact R.fro b (by rw [callFr_P (notP w), S.keep b o w]; simp) fb
  · obtain ⟨k, c, h1, h2⟩ := S.pcs i p z
    refine ⟨k, (newc ar ss' i).getD c, ?_, h2⟩
    rw [back_get, h1]; rfl
  · obtain ⟨f1, f2, f3, f4, f5⟩ := f
    have hp : H p = none := by rw [← callFr_P f3]; exact f2
    refine ⟨f1, S.np hp, fun j w => ?_, f4, fun i k c' z1 z2 => ?_⟩
    · obtain ⟨k, c1, h1, h2⟩ := S.pcs j p w
      obtain ⟨o, g1, p', g2, g3, g4, g5, g6, g7⟩ := S.slot j _ h1
      have := g5 h2
      rw [w] at this
      cases this
      obtain ⟨u, hu⟩ := g7.at
      rw [hp] at hu
      cases hu
    · obtain ⟨c0, y⟩ := bk z1
      obtain ⟨p', o', y1, y2⟩ := S.cell_at y
      rw [y1] at z2
      cases z2
      rw [hp] at y2
      cases y2
/-- a callee's promise at its arguments -/
theorem Tat.call {n : Nat} {G : Fn} {vs : List V} {ar : List Ar} {Q : VK} {E : XK} (h : Tat K ct (RV K ct.ad) W fr F ρ (callG n G ar) σ Q) (S : Rel K ct fr F H σ ρ) (r : RAs K ct.ad F σ vs ar) (hE : ∀ cls d H', W cls d σ H' → E cls d H') : spP K ct.ad n G vs H Q E := by
  obtain ⟨x, ρ', e, q⟩ := h
  unfold callG at e
  split at e
  · cases e
  · rename_i ss es
    split at e
    · rename_i nd0
      obtain ⟨hn, nd⟩ := nd0
      split at e
      · cases e
      · rename_i y ss' eg
        cases e
        refine ⟨by rw [r.len]; exact hn, callFr F H σ ar, F, ss, S.enter r es nd, fun b hb => callFr_P hb, rfl, x, ss', eg, ?_⟩
        cases x with
        | er c pl =>
          intro d F' H' s' R pr
          exact hE _ _ _ (q d F' H' s' (S.leave r es s' R).1 pr)
        | ok rv =>
          intro v F' H' s' R rr
          obtain ⟨z1, z2⟩ := S.leave r es s' R
          refine q v F' H' s' z1 ?_
          cases rv with
          | d d => exact rr
          | c c => obtain ⟨p, ev, fp⟩ := rr; exact ⟨p, ev, z2 p c fp⟩
    · cases e
end PL
end
section
namespace OW
open PySem PySem.Spec PyProof.Rows L2
/-- what the operators of the class at C ask -/
def rOwn2 (C : Addr) (sp : Sp) (E : XK) : R2 := fun x y H Q => ∃ a dx fs b dy gs, x = .ref a ∧ y = .ref b ∧ H a = some (.ins C dx fs) ∧ H b = some (.ins C dy gs) ∧ sp [x, y] H Q E
def rOwn1 (C : Addr) (sp : Sp) (E : XK) : V → Hp → VK → Prop := fun x H Q => ∃ a dx fs, x = .ref a ∧ H a = some (.ins C dx fs) ∧ sp [x] H Q E
section
variable {X : Cx} {CX : CXT} {k : Nat} {C f : Addr} {fd : FuncData} {ps : List Str} {sp : Sp} {E : XK}
theorem inst {pins : List (Addr × Obj)} {σ : L2.St} {H : Hp} {s : Shared} {a dx : Addr} {fs : List (Str × V)} (I : Inv X pins σ H s) (e : H a = some (.ins C dx fs)) : ∃ ox od, PySem.W.InstAt s.heap a ox C od := by
  exact let ⟨_, O, _⟩ := ins_get I.hok e; let ⟨od, J, _⟩ := O.look; ⟨_, od, J⟩
theorem op_bin {op : Operator} {m : Str} (hm : m = PySem.dunder op.info.2) (M : Meth X.K C m f) (hc : PySem.W.selfFirst X.K C = true) (F : FnOk X.prog X.w X.K X.mg X.base CX k f fd ps sp) (hr : Room k X.A) (hb : Binds X.K fd ps []) (hx : Passes CX X E) :
    OpR X (binaryOp op) (rOwn2 C sp E) := by
  intro pn s σ H x y v u Q I rx ry ⟨a, dx, fs, b, dy, gs, ex, ey, ha, hb', q⟩
  subst ex ey
  cases rx; cases ry
  obtain ⟨ox, od, J⟩ := inst I ha
  obtain ⟨oy, od', J'⟩ := inst I hb'
  obtain ⟨m', hF⟩ := I.fr
  subst hm
  refine PySem.W.binop_K hF I.ok.mod.kin J J'.type hc M.at_ M.fn ?_
  refine wpAny_mono (run_fn (us := [.ref a, .ref b]) (vs := [.ref a, .ref b]) F hr hb .nil hx I (.cons rfl (.cons rfl .nil)) q) (fun w s' z => ?_) fun _ _ x => x
  exact let ⟨z1, H1, J1, r1, q1⟩ := z; SlX.cmpback r1 ⟨z1, H1, J1, r1, q1⟩
theorem op_cmp {op : CmpOp} {m : Str} (hm : m = (PySem.cmpInfo op).2.1) (hop : ∀ a b, compareOp op a b = richCompare op a b) (M : Meth X.K C m f) (hn : PySem.W.notFirst X.K C (.ref C) = true) (F : FnOk X.prog X.w X.K X.mg X.base CX k f fd ps sp) (hr : Room k X.A) (hb : Binds X.K fd ps []) (hx : Passes CX X E) :
    OpR X (compareOp op) (rOwn2 C sp E) := by
  intro pn s σ H x y v u Q I rx ry ⟨a, dx, fs, b, dy, gs, ex, ey, ha, hb', q⟩
  subst ex ey
  cases rx; cases ry
  obtain ⟨ox, od, J⟩ := inst I ha
  obtain ⟨oy, od', J'⟩ := inst I hb'
  obtain ⟨m', hF⟩ := I.fr
  subst hm
  rw [hop]
  refine PySem.W.cmp_K (op := op) (tb := .ref C) hr.units0 hF I.ok.mod.kin J J'.type hn M.at_ M.fn ?_
  refine wpAny_mono (run_fn (us := [.ref a, .ref b]) (vs := [.ref a, .ref b]) F hr hb .nil hx I (.cons rfl (.cons rfl .nil)) q) (fun w s' z => ?_) fun _ _ x => x
  exact let ⟨z1, H1, J1, r1, q1⟩ := z; SlX.cmpback r1 ⟨z1, H1, J1, r1, q1⟩
theorem un_neg {m : Str} (hm : m = "__neg__") (M : Meth X.K C m f) (F : FnOk X.prog X.w X.K X.mg X.base CX k f fd ps sp) (hr : Room k X.A) (hb : Binds X.K fd ps []) (hx : Passes CX X E) : UnR X (unaryOp .USub) (rOwn1 C sp E) := by
  intro pn s σ H x v Q I rx ⟨a, dx, fs, ex, ha, q⟩
  subst ex
  cases rx
  obtain ⟨ox, od, J⟩ := inst I ha
  obtain ⟨m', hF⟩ := I.fr
  subst hm
  refine PySem.W.ksp_neg hF I.ok.mod.kin J M.at_ M.fn ?_
  exact run_fn (us := [.ref a]) (vs := [.ref a]) F hr hb .nil hx I (.cons rfl .nil) q
/-- x in o, o of the class at C: its __contains__ gives a bool -/
def rInOwn (C : Addr) (sp : Sp) (E : XK) (neg : Bool) : R2 := fun y x H Q => ∃ a dx fs, x = .ref a ∧ H a = some (.ins C dx fs) ∧ sp [x, y] H (fun z H' => ∃ b, z = .bl b ∧ Q (.bl (if neg then !b else b)) H') E
end
end OW
namespace OW
open PySem PySem.Spec PyProof.Rows L2
/-- // by any divisor but 0 below 2 ^ 9000 -/
def CDivA (_ j : Int) : Prop := j ≠ 0 ∧ j.natAbs.log2 < 9000
def wInt1 : List V → Hp → VK → Prop := fun xs H Q => (∃ i, xs = [.int i] ∧ Q (.int i) H) ∨ ∃ k, xs = [.bl k] ∧ Q (.int (if k = true then 1 else 0)) H
def wAbs : List V → Hp → VK → Prop := fun xs H Q => ∃ i, xs = [.int i] ∧ Q (.int (if i < 0 then -i else i)) H
def wMax2 : List V → Hp → VK → Prop := fun xs H Q => ∃ i j, xs = [.int i, .int j] ∧ Q (.int (if j > i then j else i)) H
def wMin2 : List V → Hp → VK → Prop := fun xs H Q => ∃ i j, xs = [.int i, .int j] ∧ Q (.int (if j < i then j else i)) H
def wStrI : List V → Hp → VK → Prop := fun xs H Q => ∃ i, xs = [.int i] ∧ i.natAbs.log2 < 1920 ∧ Q (.str (toString i)) H
def wLen (K : PySem.W.Frag) : List V → Hp → VK → Prop := fun xs H Q => ∃ p ys, xs = [.ref p] ∧ (SqL K H p ys ∨ SqT K H p ys) ∧ Q (.int ys.length) H
def wLenS : List V → Hp → VK → Prop := fun xs H Q => ∃ z, xs = [.str z] ∧ z.length ≤ sizeLine ∧ Q (.int z.length) H
def wAddS : R2 := fun x y H Q => ∃ i j, x = .str i ∧ y = .str j ∧ i.length + j.length ≤ sizeLine ∧ Q (.str (i ++ j)) H
/-- isinstance of the exception that a suite holds (its class has no own __init__) -/
def rIsEE (K : PySem.W.Frag) (a : Addr) (cls : Value) (d : Option Addr) : List V → Hp → VK → Prop := fun xs H Q => ∃ (D : Addr) (c : V) (cv : Value) (b : Bool), xs = [.ref a, c] ∧ cls = .ref D ∧ (d = none ∨ ∃ dx fs, d = some dx ∧ H dx = some (.xd fs)) ∧ ExcC K D ∧ (∀ u, RelV c u → u = cv) ∧ PySem.W.kitOne K (.ref D) cv = some b ∧ Q (.bl b) H
section
variable {X : Cx}
theorem c_int1 : CallR X (.type "int") wInt1 := call_int1
theorem c_min2 (hc : X.calm = true) : CallR X (.builtin "min") wMin2 := call_min2 hc
theorem c_len : CallR X (.builtin "len") (wLen X.K) := call_len_seq
theorem c_lenS : CallR X (.builtin "len") wLenS := call_len_str
theorem c_isEE {a : Addr} {oe : Obj} {cls : Value} {d : Option Addr} {pn : List (Addr × Obj)} (hz : Zc cls d oe) (hf : ∃ vs, oe.data = .fields vs) : CallR (X.suite a ((a, oe) :: pn)) (.builtin "isinstance") (rIsEE X.K a cls d) := by
  intro pn s σ H xs us Q I r ⟨D, c, cv, b, ex, ec, ed, hE, hc, e, q⟩
  subst ex ec
  rcases ed with ed | ⟨dx, fs, ed, hx⟩
  · subst ed
    exact call_isE hE hz hf pn s σ H _ us Q I r ⟨c, cv, b, rfl, hc, e, q⟩
  · subst ed
    cases r with
    | cons rx rr =>
      cases rr with
      | cons rt rr =>
        cases rr
        cases rx
        have ecv := hc _ rt
        subst ecv
        (obtain ⟨hget, _⟩ := I.pin (a, oe) (List.mem_append.mpr (.inl List.mem_cons_self)))
        obtain ⟨vs, hv⟩ := hf
        have hxo : ObjOk X.prog X.w H s.heap dx (.xd fs) := I.hok dx _ hx
        obtain ⟨mA, ⟨od, _, _, hod, _⟩, _⟩ := hxo
        have J : PySem.W.InstAt s.heap a oe D (some od) := by
          obtain ⟨oc, odd, oda, osl⟩ := oe
          obtain ⟨h1, h2⟩ := hz
          dsimp only at h1 h2 hv
          subst h1 h2 hv
          exact ⟨hget, rfl, rfl, hod⟩
        have hcl : (PySem.W.clsIn X.K D).isSome = true := by
          obtain ⟨cd, hcd, _⟩ := PySem.W.any_some hE.hd
          rw [hcd]
          rfl
        exact PySem.W.kia_one (PySem.W.kitx_exc hcl hE.hg hE.hk hE.hs hE.ha hE.hn hE.ht hE.hm) I.kIn J e (fun z => nomatch z) fun tk => ⟨.bl b, H, I.kept (t' := tk) fun _ _ z => z, rfl, q⟩
end
/-- C(e, ..) in the body of a try: what its __init__ lets out meets the wish at the slots as they stand -/
def tMakeS (C : Addr) (sp : Sp) (dvs : List V) (E : L2.St → XK) (t : TA) : TE := fun σ H Q =>
  t σ H fun vs G => ∀ o d, G o = none → G d = none → d ≠ o →
    sp (.ref o :: (vs ++ dvs)) (upd (upd G d (.own o)) o (.ins C d [])) (fun v G' => v = .non ∧ Q (.ref o) G') (E σ)
section
variable {X : Cx} {CX : CXT} {k : Nat} {C f : Addr} {fd : FuncData} {ps : List Str} {sp : Sp} {ds : List Value} {dvs : List V}
/-- the new object and its dict are the heap's next two places -/
theorem run_makeS {pn : List (Addr × Obj)} {σ : L2.St} {G : Hp} {s : Shared} {Q : VK} {us : List Value} {vs : List V} {E : XK}
    (M : Mk X.K C f) (F : FnOk X.prog X.w X.K X.mg X.base CX k f fd ps sp) (room : Room (k + 1) X.A) (bd : Binds X.K fd ps ds) (vd : Vals dvs ds) (px : PassesAt CX X σ E) (I : Inv X pn σ G s) (rv : Vals vs us)
    (want : ∀ o d, G o = none → G d = none → d ≠ o → sp (.ref o :: (vs ++ dvs)) (upd (upd G d (.own o)) o (.ins C d [])) (fun v G' => v = .non ∧ Q (.ref o) G') E) :
    wpAny (model X.prog X.w) X.A (call (.ref C) us) (EP X pn σ Q) X.xe s := by
  let d := s.heap.objs.size
  let o := d + 1
  have fresh : ∀ a, d ≤ a → G a = none := fun a h => I.hok.fresh h
  have w0 := want o d (fresh o (Nat.le_succ d)) (fresh d (Nat.le_refl d)) (Nat.ne_of_lt (Nat.lt_succ_self d))
  have I1 := I.made (C := C)
  have rall : Vals (V.ref o :: (vs ++ dvs)) (Value.ref o :: (us ++ ds)) := .cons rfl (rv.append vd)
  have len : (Value.ref o :: us ++ ds).length = ps.length := rall.length.symm.trans (F.len _ _ _ _ w0)
  have body := F.run _ X.stack _ _ ⟨Value.ref o :: us, []⟩ (Value.ref o :: (us ++ ds)) _ _ E (room.make C us []) (I1.env0.make C us []) (bd _ (Value.ref o :: us) I1.kIn len) rall w0
  refine wpAny_call (make_map (f := f) I.kIn M.makes M.init (beq_iff_eq.mp M.fn) (codeAny_mono body ?_))
  rintro (er | fl) s1 h1
  · exact px pn _ _ er s1 I1 h1
  · cases fl with
    | ret u => exact let ⟨_, G1, J, ru, ev, q⟩ := I1.after h1; ⟨by subst ev; exact ru, .ref o, G1, J, rfl, q⟩
    | _ => exact h1.elim
theorem pe_makeS {E : L2.St → XK} {x : Str} {p pos : Pos} {e : Expr} {es : List Expr} {t : TA} (M : Mk X.K C f) (F : FnOk X.prog X.w X.K X.mg X.base CX k f fd ps sp) (room : Room (k + 1) X.A) (hg : Gl X x) (hm : X.mg x = some (.ref C)) (bd : Binds X.K fd ps ds) (vd : Vals dvs ds)
    (px : ∀ σ, PassesAt CX X σ (E σ)) (args : PA X (e :: es) t)
    (nd : (x == ("__debug__" : Str)) = false := by decide) (h1 : starEach (e :: es) X.env = (false, eval e X.env) :: starEach es X.env := by rfl) (h2 : (backTo pos (starEach es X.env)).any (·.1) = false := by rfl) :
    PE X (.Call (.Name x p) (e :: es) [] pos) (tMakeS C sp dvs E t) where
  run pn s σ G Q I h := by
    refine wpAny_Call_Name_kw (ld_glob I hg hm ?_ nd)
    refine PySem.W.callWith_K (h₀ := X.base) I.ok.mod.kin M.kp ?_ h1 h2
    refine thn (args.run pos pn s σ G _ I h) ?_
    rintro us s1 ⟨_, _, J, rv, q⟩
    exact ⟨J.kIn, run_makeS M F room bd vd (px σ) J rv q⟩
end
end OW
namespace OW
open PySem PySem.Spec PyProof.Rows L2
def wFmt : V → Hp → VK → Prop := fun x H Q => (∃ y : Str, x = .str y ∧ y.length ≤ sizeLine ∧ Q (.str y) H) ∨ ∃ i : Int, x = .int i ∧ i.natAbs.log2 < 1920 ∧ Q (.str (toString i)) H
end OW
namespace OW
open PySem PySem.Spec PyProof.Rows L2
section
variable {P : Program} {w : World} {K : PySem.W.Frag} {mg : Str → Option Value} {base : Heap} {x qual : Str} {st : Stmt} {dvs : List V} {kws : List (Str × V)} {f : Addr} {fd : FuncData} {N ps : List Str} {k : Nat} {sp : Sp}
/-- what is to be shown of a def's body: W its wish for exceptions -/
def BodyOk (P : Program) (w : World) (K : PySem.W.Frag) (mg : Str → Option Value) (base : Heap) (N : List Str) (qual : Str) (st : Stmt) (f : Addr) (k : Nat) (sp : Sp) (CX : CXT) (no : Bool) : Prop :=
  ∀ (cdv : Value) (A : Around) (outer : List Env) (s : Shared) (H : Hp) (vs : List V) (Q : VK) (E : XK),
    Room k (A.deeper (envOfC qual (defScope st) s.heap.objs.size f cdv)) → sp vs H Q E → ∃ t,
      (if no = true then PSs (cxOf CX P w K mg base N qual (defScope st) f cdv A outer s H E).nox (defBody st) t else PSs (cxOf CX P w K mg base N qual (defScope st) f cdv A outer s H E) (defBody st) t) ∧
      t { nx := fun _ H' => Q .non H', rt := Q } (start N vs) H
end
end OW
namespace OW
open PySem PySem.Spec PyProof.Rows L2
/-! an instance that is walked: its __iter__ gives iter(its tuple) -/
/-- the tuple's iterator at its start -/
def TIt (t it : Addr) : HO := .ext fun h => h.IsTupleIter it t 0
theorem tit_ok {P : Program} {w : World} {H : Hp} {h : Heap} {t it : Addr} (e : h.IsTupleIter it t 0) : ObjOk P w H h it (TIt t it) := by
  obtain ⟨o, ho, z⟩ := id e
  exact ⟨e, ⟨o, ho⟩, fun h1 h2 q k => q.at k⟩
/-- a def whose promise knows how many places the heap has when it is entered -/
structure FnS (P : Program) (w : World) (K : PySem.W.Frag) (mg : Str → Option Value) (base : Heap) (k : Nat) (f : Addr) (fd : FuncData) (ps : List Str) (sp : Nat → Sp) : Prop where
  len : ∀ n vs H Q E, sp n vs H Q E → vs.length = ps.length
  run : ∀ (A : Around) (outer : List Env) (s : Shared) (H : Hp) (args : Args) (us : List Value) (vs : List V) (Q : VK) (E : XK), Room k A → Env0 P w K mg base A outer s H → BindsTo s fd args (ps.zip us) → Vals vs us →
    sp s.heap.objs.size vs H Q E → codeAny (model P w) A (.call (.ref f) args) (CR CX0 outer P w H s Q E) s
theorem okS {P : Program} {w : World} {K : PySem.W.Frag} {mg : Str → Option Value} {base : Heap} {x qual : Str} {st : Stmt} {f : Addr} {fd : FuncData} {N ps : List Str} {k : Nat} {sp : Nat → Sp} (F : L2.Fun K x qual st f fd) (S : FnScope N ps (defScope st))
    (len : ∀ n vs H Q E, sp n vs H Q E → vs.length = ps.length)
    (body : ∀ (cdv : Value) (A : Around) (outer : List Env) (s : Shared) (H : Hp) (vs : List V) (Q : VK) (E : XK), Room k (A.deeper (envOfC qual (defScope st) s.heap.objs.size f cdv)) → sp s.heap.objs.size vs H Q E →
      ∃ t, PSs (cxOf CX0 P w K mg base N qual (defScope st) f cdv A outer s H E).nox (defBody st) t ∧ t { nx := fun _ G => Q .non G, rt := Q } (start N vs) H) : FnS P w K mg base (k + 1) f fd ps sp := by
  obtain ⟨oc, od, kV, doc, pm, an, cdv, ct, osl, rfl, look, code⟩ := F.ex
  refine ⟨len, fun A outer s H args us vs Q E room env0 bnd rv want => ?_⟩
  have vl := len _ _ _ _ _ want
  have KX : K.In s.heap := env0.mod.kin.keeps fun b o q => (env0.bs b o q).1
  have free : s.heap.NoLimit := env0.mod.nolimit.keeps fun b o q => (env0.bs b o q).1
  have kinds : ∀ y ∈ ps.zip us, (defScope st).names.lookup y.1 = some .local ∨ ((defScope st).names.lookup y.1 = some .cell ∧ ((cellsFrom (s.heap.objs.size + 1) (defScope st).names []).lookup y.1).isSome = true) := by
    rintro ⟨n, v⟩ hy
    rcases S.par n (List.of_mem_zip hy).1 with z | z
    · exact .inl z
    · exact .inr ⟨z, PySem.W.cellsFrom_some _ _ _ (.inl z)⟩
  refine codeAny_call_function room.depth (KX _ _ look) rfl S.co S.gen rfl (PySem.W.codeRec_of KX code) (bnd _ _ _ _ ?_)
  refine wpAny_newFunctionEnv_cells S.kind kinds fun env he s1 inn => ?_
  subst he
  refine ⟨free.keeps inn.toInCall.keep, codeAny_func ?_⟩
  obtain ⟨t, ht, q⟩ := body cdv A outer s H vs Q E (room.deeper _) want
  have J : Inv (cxOf CX0 P w K mg base N qual (defScope st) f cdv A outer s H E) [] (start N vs) H s1 := inv_start S room.hd env0 vl rv inn
  refine wpAny_mono (ht.nox.run [] s1 (start N vs) H _ J q) (fun fl s2 out => ?_) fun e s2 out => out
  have fin : ∀ {τ : L2.St} {G : Hp} {v : V} {u : Value}, Inv (cxOf CX0 P w K mg base N qual (defScope st) f cdv A outer s H E) [] τ G s2 → RelV v u → Q v G → CE outer P w H s Q u s2 :=
    fun {τ G v u} I2 r q2 => ⟨v, G, I2.os, I2.bare, I2.base, I2.hok, r, q2⟩
  cases fl with
  | ret u =>
    obtain ⟨v, τ, G, I2, r, q2⟩ := out
    exact fin I2 r q2
  | next =>
    obtain ⟨τ, G, I2, q2⟩ := out
    exact fin (v := V.non) (u := Value.none) I2 rfl q2
  | brk =>
    obtain ⟨_, _, _, z⟩ := out
    exact z.elim
  | cont =>
    obtain ⟨_, _, _, z⟩ := out
    exact z.elim
def wIterT (K : PySem.W.Frag) (n : Nat) : List V → Hp → VK → Prop := fun xs H Q => ∃ (l : Addr) (zs : List V), xs = [.ref l] ∧ SqT K H l zs ∧ ∀ it, H it = none → n ≤ it → Q (.ref it) (upd H it (TIt l it))
theorem c_iterT {X : Cx} : CallR X (.builtin "iter") (wIterT X.K X.s_0.heap.objs.size) := by
  rintro pn s σ H xs us Q I r ⟨l, zs, rfl, hq, q⟩
  (obtain ⟨u, rfl, ru⟩ := vals1 r)
  cases ru
  obtain ⟨its, rv, pl, hz⟩ := I.tuple hq
  (refine Calls.call_function_entry (by decide +kernel) (by decide +kernel) PySem.W.kdk_entry_iter (PySem.W.kdk_args_iter _) ?_)
  unfold Builtin.«iter»
  (refine wpAny_bind (m := someArgs "iter" 1 2 _) (wpAny_of_eq (a := [Value.ref l]) (by first | rfl | kernel_rfl!) ?_))
  change wpAny _ _ (pyIter (.ref l) >>= _) _ _ _
  refine wpAny_bind (wpAny_pyIter_tuple (show s.heap.IsTuple l its.toArray from pl) ?_)
  (refine wpAny_pure ⟨_, rfl, ?_⟩)
  exact ⟨.ref s.heap.objs.size, _, I.laid (t' := s.toks) (fun b u e => Heap.get?_push_of_some _ e) (Nat.le_refl _) (tit_ok ⟨_, Heap.get?_push_size _ rfl, rfl, rfl⟩), rfl, q _ (I.hok.fresh (Nat.le_refl _)) I.sz⟩
def iOwn (K : PySem.W.Frag) (C : Addr) (sp : Nat → Sp) (ta : TE) : TI := fun σ H R => ta σ H fun x G => ∃ a dx fs, x = .ref a ∧ G a = some (.ins C dx fs) ∧
  ∀ n, sp n [.ref a] G (fun v G2 => ∃ it t, v = .ref it ∧ n ≤ it ∧ G it = none ∧ G2 = upd G it (TIt t it) ∧ R (Itt K t) G) E0
section
variable {X : Cx} {k : Nat} {C f : Addr} {fd : FuncData} {ps : List Str} {sp : Nat → Sp} {e tg : Expr} {ta : TE}
end
/-! max(xs, default=d), sorted(d, reverse=True), min and max of three -/
def maxL (d : Int) : List Int → Int
  | [] => d
  | n :: ns => ns.foldl max n
section
variable {X : Cx}
theorem alike_ints (ns : List Int) : PySem.W.AlikeAll (ns.map PyData.int) := by
  refine ⟨fun x hx y hy => ?_, fun x hx => ?_⟩
  · obtain ⟨i, _, rfl⟩ := List.mem_map.mp hx
    obtain ⟨j, _, rfl⟩ := List.mem_map.mp hy
    rfl
  · obtain ⟨i, _, rfl⟩ := List.mem_map.mp hx
    exact fun z => nomatch z
theorem depth_ints : ∀ ns : List Int, PyData.depthAll (ns.map PyData.int) ≤ 1
  | [] => by decide
  | n :: ns => by
    show max (PyData.int n).depth (PyData.depthAll (ns.map PyData.int)) ≤ 1
    exact Nat.max_le.mpr ⟨by show PyData.depth (.int n) ≤ 1; unfold PyData.depth; decide, depth_ints ns⟩
def wMaxD (K : PySem.W.Frag) : List V → List V → Hp → VK → Prop := fun vs zs H Q => ∃ (a : Addr) (ns : List Int) (d : Int), vs = [.ref a] ∧ zs = [.int d] ∧ SqL K H a (ns.map V.int) ∧ Q (.int (maxL d ns)) H
def wMin3 : List V → Hp → VK → Prop := fun xs H Q => ∃ i j k : Int, xs = [.int i, .int j, .int k] ∧ Q (.int (min i (min j k))) H
def wMax3 : List V → Hp → VK → Prop := fun xs H Q => ∃ i j k : Int, xs = [.int i, .int j, .int k] ∧ Q (.int (max i (max j k))) H
def wSortDR : List V → List V → Hp → VK → Prop := fun vs zs H Q => ∃ (a : Addr) (kvs : List (Key × V)) (ks : List Int), vs = [.ref a] ∧ zs = [.bl true] ∧ Rd H a (.dK kvs) ∧ kvs.map (·.1) = ks.map Sum.inl ∧
  ∀ (ys : List Int) (p : Addr), ys.Perm ks → ys.Pairwise (· ≥ ·) → H p = none → Q (.ref p) (upd H p (.lst (ys.map V.int)))
end
end OW
namespace OW
open PySem PySem.Spec PyProof.Rows L2
section
variable {X : Cx}
def wTupL (K : PySem.W.Frag) : List V → Hp → VK → Prop := fun xs H Q => ∃ (p : Addr) (ys : List V), xs = [.ref p] ∧ SqL K H p ys ∧ ∀ l, H l = none → Q (.ref l) (upd H l (.tup ys))
def wLstL (K : PySem.W.Frag) : List V → Hp → VK → Prop := fun xs H Q => ∃ (p : Addr) (ys : List V), xs = [.ref p] ∧ SqL K H p ys ∧ ∀ l, H l = none → Q (.ref l) (upd H l (.lst ys))
def wLstT (K : PySem.W.Frag) : List V → Hp → VK → Prop := fun xs H Q => ∃ (p : Addr) (ys : List V), xs = [.ref p] ∧ SqT K H p ys ∧ ∀ l, H l = none → Q (.ref l) (upd H l (.lst ys))
end
end OW
namespace OW
open PySem PySem.Spec PyProof.Rows L2
def wIns : V → List V → Hp → VK → Prop := fun x vs H Q => ∃ (l : Addr) (xs : List V) (i : Int) (y : V), x = .ref l ∧ vs = [.int i, y] ∧ H l = some (.lst xs) ∧ xs.length < sizeLine ∧ 0 ≤ i ∧ i < 2 ^ 63 ∧ Q .non (upd H l (.lst (xs.take i.toNat ++ [y] ++ xs.drop i.toNat)))
end OW
namespace OW
open PySem PySem.Spec PyProof.Rows L2
/-- a op b op' c op'' d as a test -/
def tChain3 (r r' r'' : R2) (ta tb tc td : TE) : TT := fun σ H QB => ta σ H fun x G => tb σ G fun y G1 => r x y G1 fun z G2 => ∃ k, z = .bl k ∧
  (if k = true then tc σ G2 fun u G3 => r' y u G3 fun z2 G4 => ∃ k2, z2 = .bl k2 ∧
    (if k2 = true then td σ G4 fun v G5 => r'' u v G5 fun z3 G6 => ∃ k3, z3 = .bl k3 ∧ QB k3 G6 else QB false G4) else QB false G2)
section
variable {X : Cx} {a b c d : Expr} {ta tb tc td : TE} {pos : Pos} {op op' op'' : CmpOp} {r r' r'' : R2}
end
end OW
namespace OW
open PySem PySem.Spec PyProof.Rows L2
def wIsN : R2 := fun x y H Q => y = .non ∧ Q (.bl (decide (x = .non))) H
def wNotN : R2 := fun x y H Q => y = .non ∧ Q (.bl (!decide (x = .non))) H
end OW
namespace OW
open PySem PySem.Spec PyProof.Rows L2
end OW
namespace OW
open PySem PySem.Spec PyProof.Rows L2
/-- C(e, ..), C a local name -/
def tMakeL (i : Nat) (C : Addr) (sp : Sp) (E : XK) (t : TA) : TE := fun σ H Q => σ[i]? = some (some (.ref C)) ∧ tMake C sp [] E t σ H Q
section
variable {X : Cx} {CX : CXT} {k : Nat} {C f : Addr} {fd : FuncData} {ps : List Str} {sp : Sp} {E : XK} {K : PySem.W.Frag}
end
end OW
end
section
namespace PL
open PySem PySem.Spec PyProof.Rows L2
variable {K : PySem.W.Frag} {ad : Cl → Addr} {ct : CT}
variable {fr : Fr} {F F' H H' : Hp} {σ : L2.St} {ρ : List Sl} {W : WX}
/-! ### arguments -/
section
variable {X : Cx}
theorem pq_n : PA X [] (TAr K ct W (evAs [])) := pa_nil.imp fun σ H Q h => by
  obtain ⟨fr, F, ρ, S, h⟩ := h
  exact Tat.ok (a := ([] : List Ar)) h [] F H (Same.refl _) S RAs.nil
theorem RAs.mono {F F' : Hp} {σ : L2.St} (s : Same F F') : ∀ {vs : List V} {as : List Ar}, RAs K ct.ad F σ vs as → RAs K ct.ad F' σ vs as
  | _, _, .nil => .nil
  | _, .d _ :: _, .cons h r => .cons (Rp.mono s h) (RAs.mono s r)
  | _, .c _ :: _, .cons h r => .cons h (RAs.mono s r)
theorem pq_c {e : Expr} {es : List Expr} {m : Ev} {r : List AE} (he : PE X e (TP K ct W m)) (hr : PA X es (TAr K ct W (evAs r)))
    (hs : starEach (e :: es) X.env = (false, eval e X.env) :: starEach es X.env := by rfl) : PA X (e :: es) (TAr K ct W (evAs (.e m :: r))) := (pa_cons he hr hs).imp fun σ H Q h => by
  obtain ⟨fr, F, ρ, S, h⟩ := h
  refine Tat.dat h S fun F1 H1 ρ1 v d s1 S1 r1 h => ?_
  refine Tat.bnd h S1 fun F2 H2 ρ2 vs ds s2 S2 r2 h => ?_
  exact Tat.ok (a := Ar.d d :: ds) h _ F2 H2 (Same.refl _) S2 (RAs.cons (r1.mono s2) r2)
theorem pq_k {e : Expr} {es : List Expr} (j : Nat) {r : List AE} (he : PE X e (tVar j)) (hr : PA X es (TAr K ct W (evAs r)))
    (hs : starEach (e :: es) X.env = (false, eval e X.env) :: starEach es X.env := by rfl) : PA X (e :: es) (TAr K ct W (evAs (.c j :: r))) := (pa_cons he hr hs).imp fun σ H Q h => by
  obtain ⟨fr, F, ρ, S, r0, ρ0, e0, q0⟩ := h
  have e1 : (match ρ[j]? with | some (.cel _ _) => bnd (evAs r) (fun as => pur (.c j :: as)) ρ | _ => none) = some (r0, ρ0) := e0
  split at e1
  · rename_i k c hc
    obtain ⟨p, o, h1, h2⟩ := S.cell_at hc
    refine ⟨_, h1, ?_⟩
    have h : Tat K ct (RA K ct.ad) W fr F ρ (bnd (evAs r) (fun as => pur (.c j :: as))) σ Q := ⟨r0, ρ0, e1, q0⟩
    refine Tat.bnd h S fun F2 H2 ρ2 vs ds s2 S2 r2 h => ?_
    exact Tat.ok (a := Ar.c j :: ds) h _ F2 H2 (Same.refl _) S2 (RAs.cons h1 r2)
  · cases e1
end
/-- a call whose arguments stand -/
def evCall0 (n : Nat) (G : Fn) (as : List AE) (ds : List D := []) : Ev := bnd (evAs as) fun ar => noEr (callG n G (ar ++ ds.map .d))
theorem Tat.noEr {α β : Type} {R : Rel3 β α} {m : M α} {Q : β → Hp → Prop} (h : Tat K ct R W fr F ρ (PL.noEr m) σ Q) : Tat K ct R (fun _ _ _ _ => False) fr F ρ m σ Q := by
  obtain ⟨r, ρ', e, q⟩ := h
  unfold PL.noEr at e
  split at e
  · rename_i a ρ1 h1
    cases e
    exact ⟨_, _, h1, q⟩
  · cases e
theorem spP.no {n : Nat} {G : Fn} {vs : List V} {H : Hp} {Q : VK} {E : XK} (h : spP K ad n (noEr G) vs H Q E) : spP K ad n G vs H Q (fun _ _ _ => False) := by
  obtain ⟨hn, fr, F, ss, S, hP, hF, t⟩ := h
  exact ⟨hn, fr, F, ss, S, hP, hF, t.noEr⟩
/-- a def that raises nothing -/
def run0 (k : Nat) (s : M Fl) : Fn := noEr (runB k s)
theorem ok0 {P : Program} {w : World} {mg : Str → Option Value} {base : Heap} {x qual : Str} {st : Stmt} {f : Addr} {fd : FuncData} {N ps : List Str} {lv : Nat} {n k : Nat} {s : M Fl} (Fd : L2.Fun K x qual st f fd) (S : FnScope N ps (defScope st)) (hp : ps.length = n) (hN : N.length = n + k)
    (hb : ∀ (cdv : Value) (A : Around) (outer : List Env) (s0 : Shared) (H : Hp) (E : XK), Room lv (A.deeper (envOfC qual (defScope st) s0.heap.objs.size f cdv)) →
      PSs (cxOf CX0 P w K mg base N qual (defScope st) f cdv A outer s0 H E).nox (defBody st) (TSt K (cx ad) (fun _ _ _ _ => False) s)) : FnOk P w K mg base CX0 (lv + 1) f fd ps (spP K ad n (run0 k s)) :=
  Fd.ok S (fun vs H Q E h => by rw [hp]; exact h.1) fun cdv A outer s0 H vs Q E hr h => ⟨_, hb cdv A outer s0 H E hr, body_end (E := fun _ _ _ => False) hN h.no⟩
inductive Dfs : List V → List D → Prop
  | nil : Dfs [] []
  | cons {v : V} {d : D} {vs : List V} {ds : List D} (h : d.toV = some v) (r : Dfs vs ds) : Dfs (v :: vs) (d :: ds)
theorem RAs.dfs {F : Hp} {σ : L2.St} {dvs : List V} {ds : List D} (hd : Dfs dvs ds) : ∀ {vs : List V} {as : List Ar}, RAs K ct.ad F σ vs as → RAs K ct.ad F σ (vs ++ dvs) (as ++ ds.map .d)
  | _, _, .nil => by
    induction hd with
    | nil => exact .nil
    | cons h _ ih => exact .cons (D.toV_rp h) ih
  | _, _, .cons h r => .cons h (RAs.dfs hd r)
section
variable {X : Cx} {CX : CXT} {k : Nat} {f : Addr} {fd : FuncData} {ps : List Str} {x : Str} {p pos apos : Pos} {e o : Expr} {es : List Expr} {n : Nat} {G : Fn} {as : List AE} {dvs : List V} {dds : List D} {ds : List Value}
theorem pp_call (Fn : FnOk X.prog X.w X.K X.mg X.base CX k f fd ps (spP K ct.ad n G)) (hr : Room k X.A) (hg : Gl X x) (hm : X.mg x = some (.ref f)) (hk : PySem.W.keepIn X.K (.ref f) = true) (hb : Binds X.K fd ps ds) (hd : Vals dvs ds) (hx : Passes CX X E0)
    (ha : PA X (e :: es) (TAr K ct W (evAs as))) (hdf : Dfs dvs dds) (hdb : (x == ("__debug__" : Str)) = false := by decide) (he : starEach (e :: es) X.env = (false, eval e X.env) :: starEach es X.env := by rfl) (hpl : (backTo pos (starEach es X.env)).any (·.1) = false := by rfl) :
    PE X (.Call (.Name x p) (e :: es) [] pos) (TP K ct W (evCall0 n G as dds)) := (pe_call Fn hr hg hm hk hb hd hx ha hdb he hpl).imp fun σ H Q h => by
  obtain ⟨fr, F, ρ, S, h⟩ := h
  refine Tat.bnd h S fun F1 H1 ρ1 vs ar s1 S1 r1 h => ?_
  exact Tat.call (W := fun _ _ _ _ => False) h.noEr S1 (RAs.dfs hdf r1) fun _ _ _ z => z
/-! methods of data objects -/
def evMeth (n : Nat) (G : Fn) (c : Cl) (o : Ev) (as : List AE) : Ev := bnd (dat o) fun d => match d with
  | .obj c' xs => if c' = c then bnd (evAs as) fun ar => noEr (callG n G (.d (.obj c' xs) :: ar)) else fai
  | _ => fai
def evMethS (n : Nat) (G : Fn) (c : Cl) (o : Ev) (as : List AE) : Ev := bnd (dat o) fun d => match d with
  | .obj c' xs => if c' = c then bnd (evAs as) fun ar => callG n G (.d (.obj c' xs) :: ar) else fai
  | _ => fai
theorem Tat.obj {δ γ : Type} {R' : Rel3 δ γ} {m : Ev} {c : Cl} {k : List D → M γ} {Q : δ → Hp → Prop} {Q1 : V → Hp → Prop}
    (h : Tat K ct R' W fr F ρ (PL.bnd (PL.dat m) fun d => match d with | .obj c' xs => if c' = c then k xs else fai | _ => fai) σ Q) (S : Rel K ct fr F H σ ρ)
    (hq : ∀ F1 H1 ρ1 a dx vs xs, Same F F1 → Rel K ct fr F1 H1 σ ρ1 → F1 a = some (.ins (ct.ad c) dx (c.fn.zip vs)) → c.fn.length = vs.length → Rps K ct.ad F1 vs xs → Tat K ct R' W fr F1 ρ1 (k xs) σ Q → Q1 (.ref a) H1) : T K ct (RV K ct.ad) W m σ H Q1 := by
  refine Tat.dat h S fun F1 H1 ρ1 v d s1 S1 r1 h => ?_
  cases d with
  | obj c' xs =>
    cases r1 with
    | @obj a dx _ vs _ h1 l1 k1 =>
      have h9 : Tat K ct R' W fr F1 ρ1 (if c' = c then k xs else fai) σ Q := h
      clear h
      split at h9
      · rename_i ec
        subst ec
        exact hq F1 H1 ρ1 a dx vs xs s1 S1 h1 l1 k1 h9
      · obtain ⟨_, _, e, _⟩ := h9; cases e
  | _ => obtain ⟨_, _, e, _⟩ := h; cases e
theorem dcont {α : Type} {c : Cl} {k : Cl → List D → M α} : (fun d : D => match d with | .obj c' xs => if c' = c then k c' xs else fai | _ => (fai : M α)) = fun d => match d with | .obj c' xs => if c' = c then k c xs else fai | _ => fai := by
  funext d
  cases d <;> try rfl
  rename_i c' xs
  by_cases e : c' = c
  · subst e; rfl
  · simp [e]
/-- how a call of a method runs, with these words -/
abbrev CallsM (X : Cx) (o : Expr) (m : Str) (apos pos : Pos) (pl : Sem Bool) (ws : List Expr) : Prop :=
  eval (.Call (.Attribute o m apos) ws [] pos) X.env = eval o X.env >>= fun y => standAt apos.atName >>= fun _ => holding [y] (getMethod y m pl) >>= fun z =>
    callWith pos z.1 z.2 (backTo pos (starEach ws X.env)) (backToKw pos (keywordEach [] X.env))
theorem pp_meth {m : Str} {pl : Sem Bool} {fo : Ev} (c : Cl) (he : PE X o (TP K ct W fo)) (cl : Cls X.K (ct.ad c)) (hm : Meth X.K (ct.ad c) m f) (Fn : FnOk X.prog X.w X.K X.mg X.base CX k f fd ps (spP K ct.ad n G)) (hr : Room k X.A) (hb : Binds X.K fd ps []) (hx : Passes CX X E0)
    (ha : PA X (e :: es) (TAr K ct W (evAs as))) (nm : c.fn.findIdx? (fun k => m == k) = none := by decide)
    (hst : starEach (e :: es) X.env = (false, eval e X.env) :: starEach es X.env := by rfl) (hpl : (backTo pos (starEach es X.env)).any (·.1) = false := by rfl)
    (ht : CallsM X o m apos pos pl (e :: es) := by rfl) :
    PE X (.Call (.Attribute o m apos) (e :: es) [] pos) (TP K ct W (evMeth n G c fo as)) := (pe_meth he cl hm Fn hr hb .nil hx ha hst hpl ht).imp fun σ H Q h => by
  obtain ⟨fr, F, ρ, S, h⟩ := h
  unfold evMeth at h
  rw [dcont (k := fun c xs => bnd (evAs as) fun ar => noEr (callG n G (.d (.obj c xs) :: ar)))] at h
  refine Tat.obj h S fun F1 H1 ρ1 a dx vs xs s1 S1 h1 l1 k1 h => ?_
  refine ⟨a, dx, _, rfl, S1.fh _ _ h1, look_no nm, ?_⟩
  refine Tat.bnd h S1 fun F2 H2 ρ2 us ar s2 S2 r2 h => ?_
  rw [List.append_nil]
  exact Tat.call (W := fun _ _ _ _ => False) h.noEr S2 (RAs.cons ((Rp.obj h1 l1 k1).mono s2) r2) fun _ _ _ z => z
theorem pp_meth0 {m : Str} {pl : Sem Bool} {fo : Ev} (c : Cl) (he : PE X o (TP K ct W fo)) (cl : Cls X.K (ct.ad c)) (hm : Meth X.K (ct.ad c) m f) (Fn : FnOk X.prog X.w X.K X.mg X.base CX k f fd ps (spP K ct.ad n G)) (hr : Room k X.A) (hb : Binds X.K fd ps []) (hx : Passes CX X E0)
    (nm : c.fn.findIdx? (fun k => m == k) = none := by decide)
    (ht : CallsM X o m apos pos pl [] := by rfl) :
    PE X (.Call (.Attribute o m apos) [] [] pos) (TP K ct W (evMeth n G c fo [])) := (pe_meth0 he cl hm Fn hr hb .nil hx ht).imp fun σ H Q h => by
  obtain ⟨fr, F, ρ, S, h⟩ := h
  unfold evMeth at h
  rw [dcont (k := fun c xs => bnd (evAs []) fun ar => noEr (callG n G (.d (.obj c xs) :: ar)))] at h
  refine Tat.obj h S fun F1 H1 ρ1 a dx vs xs s1 S1 h1 l1 k1 h => ?_
  refine ⟨a, dx, _, rfl, S1.fh _ _ h1, look_no nm, ?_⟩
  exact Tat.call (W := fun _ _ _ _ => False) (ar := [.d (.obj c xs)]) (Tat.noEr h) S1 (RAs.cons (Rp.obj h1 l1 k1) RAs.nil) fun _ _ _ z => z
/-- o.m(e, ..), what it raises meets the wish at the slots as they stand -/
def tMethE (C : Addr) (m : Str) (sp : Sp) (E : L2.St → XK) (ta : TE) (t : TA) : TE := fun σ H Q => ta σ H fun x H1 => ∃ a dx fs, x = .ref a ∧ H1 a = some (.ins C dx fs) ∧ fs.lookup m = none ∧ t σ H1 fun vs H2 => sp (x :: vs) H2 Q (E σ)
theorem pe_methE {C : Addr} {m : Str} {pl : Sem Bool} {sp : Sp} {E : L2.St → XK} {ta : TE} {t : TA} (he : PE X o ta) (c : Cls X.K C) (hm : Meth X.K C m f) (Fn : FnOk X.prog X.w X.K X.mg X.base CX k f fd ps sp) (hr : Room k X.A) (hb : Binds X.K fd ps []) (hx : ∀ σ, PassesAt CX X σ (E σ)) (ha : PA X (e :: es) t)
    (hst : starEach (e :: es) X.env = (false, eval e X.env) :: starEach es X.env := by rfl) (hpl : (backTo pos (starEach es X.env)).any (·.1) = false := by rfl)
    (ht : CallsM X o m apos pos pl (e :: es) := by rfl) :
    PE X (.Call (.Attribute o m apos) (e :: es) [] pos) (tMethE C m sp E ta t) := by
  (refine ⟨fun pins s σ H Q I h => ?_⟩)
  (refine PySem.W.methodCall_KW (pl := pl) (thn (he.run pins s σ H _ I h) fun u s1 ⟨x, H1, I1, rx, a, dx, fs, ex, ea, l, q⟩ => ?_) ht)
  subst ex
  (obtain rfl : u = Value.ref a := rx)
  (refine getmeth_ok I1 ea c hm l ?_)
  (refine PySem.W.callWith_K (first := [.ref a]) (h₀ := X.base) I.ok.mod.kin hm.kp (thn (ha.run pos pins s1 σ H1 _ I1 q) fun us s2 ⟨vs, H2, I2, r, q2⟩ => ⟨I2.kIn, ?_⟩) hst hpl)
  exact run_fnS (us := .ref a :: us) (vs := .ref a :: vs) Fn hr hb (hx σ) I2 (.cons rfl r) q2
theorem pe_methE0 {C : Addr} {m : Str} {pl : Sem Bool} {sp : Sp} {E : L2.St → XK} {ta : TE} (he : PE X o ta) (c : Cls X.K C) (hm : Meth X.K C m f) (Fn : FnOk X.prog X.w X.K X.mg X.base CX k f fd ps sp) (hr : Room k X.A) (hb : Binds X.K fd ps []) (hx : ∀ σ, PassesAt CX X σ (E σ))
    (ht : CallsM X o m apos pos pl [] := by rfl) :
    PE X (.Call (.Attribute o m apos) [] [] pos) (tMethE C m sp E ta tNil) := by
  (refine ⟨fun pins s σ H Q I h => ?_⟩)
  (refine PySem.W.methodCall_KW (pl := pl) (thn (he.run pins s σ H _ I h) fun u s1 ⟨x, H1, I1, rx, a, dx, fs, ex, ea, l, q⟩ => ?_) ht)
  subst ex
  (obtain rfl : u = Value.ref a := rx)
  (refine getmeth_ok I1 ea c hm l ?_)
  exact PySem.W.callWith_K0 (first := [.ref a]) I1.kIn hm.kp (run_fnS (us := [.ref a]) (vs := [.ref a]) Fn hr hb (hx σ) I1 (.cons rfl .nil) q)
theorem pp_methS {m : Str} {pl : Sem Bool} {fo : Ev} (c : Cl) (he : PE X o (TP K ct W fo)) (cl : Cls X.K (ct.ad c)) (hm : Meth X.K (ct.ad c) m f) (Fn : FnOk X.prog X.w X.K X.mg X.base (L2.CX X.prog X.w) k f fd ps (spP K ct.ad n G)) (tk : Takes X W) (hr : Room k X.A) (hb : Binds X.K fd ps [])
    (ha : PA X (e :: es) (TAr K ct W (evAs as))) (nm : c.fn.findIdx? (fun k => m == k) = none := by decide)
    (hst : starEach (e :: es) X.env = (false, eval e X.env) :: starEach es X.env := by rfl) (hpl : (backTo pos (starEach es X.env)).any (·.1) = false := by rfl)
    (ht : CallsM X o m apos pos pl (e :: es) := by rfl) :
    PE X (.Call (.Attribute o m apos) (e :: es) [] pos) (TP K ct W (evMethS n G c fo as)) := (pe_methE he cl hm Fn hr hb (fun σ => passAt tk σ) ha hst hpl ht).imp fun σ H Q h => by
  obtain ⟨fr, F, ρ, S, h⟩ := h
  unfold evMethS at h
  rw [dcont (k := fun c xs => bnd (evAs as) fun ar => callG n G (.d (.obj c xs) :: ar))] at h
  refine Tat.obj h S fun F1 H1 ρ1 a dx vs xs s1 S1 h1 l1 k1 h => ?_
  refine ⟨a, dx, _, rfl, S1.fh _ _ h1, look_no nm, ?_⟩
  refine Tat.bnd h S1 fun F2 H2 ρ2 us ar s2 S2 r2 h => ?_
  exact Tat.call h S2 (RAs.cons ((Rp.obj h1 l1 k1).mono s2) r2) fun _ _ _ z => z
theorem pp_methS0 {m : Str} {pl : Sem Bool} {fo : Ev} (c : Cl) (he : PE X o (TP K ct W fo)) (cl : Cls X.K (ct.ad c)) (hm : Meth X.K (ct.ad c) m f) (Fn : FnOk X.prog X.w X.K X.mg X.base (L2.CX X.prog X.w) k f fd ps (spP K ct.ad n G)) (tk : Takes X W) (hr : Room k X.A) (hb : Binds X.K fd ps [])
    (nm : c.fn.findIdx? (fun k => m == k) = none := by decide)
    (ht : CallsM X o m apos pos pl [] := by rfl) :
    PE X (.Call (.Attribute o m apos) [] [] pos) (TP K ct W (evMethS n G c fo [])) := (pe_methE0 he cl hm Fn hr hb (fun σ => passAt tk σ) ht).imp fun σ H Q h => by
  obtain ⟨fr, F, ρ, S, h⟩ := h
  unfold evMethS at h
  rw [dcont (k := fun c xs => bnd (evAs []) fun ar => callG n G (.d (.obj c xs) :: ar))] at h
  refine Tat.obj h S fun F1 H1 ρ1 a dx vs xs s1 S1 h1 l1 k1 h => ?_
  refine ⟨a, dx, _, rfl, S1.fh _ _ h1, look_no nm, ?_⟩
  exact Tat.call (ar := [.d (.obj c xs)]) h S1 (RAs.cons (Rp.obj h1 l1 k1) RAs.nil) fun _ _ _ z => z
/-! properties -/
theorem pp_prop {m : Str} {q : Addr} {fo : Ev} (c : Cl) (he : PE X o (TP K ct W fo)) (cl : Cls X.K (ct.ad c)) (hp : PropOf X.K (ct.ad c) m q f) (Fn : FnOk X.prog X.w X.K X.mg X.base CX k f fd ps (spP K ct.ad n G)) (hr : Room (k + 1) X.A) (hb : Binds X.K fd ps []) (hx : Passes CX X.nox E0)
    (hab : attributeBase o m X.env (eval o X.env) = eval o X.env := by rfl) : PE X (.Attribute o m pos) (TP K ct W (evMeth n G c fo [])) := (pe_prop he cl hp Fn hr hb .nil hx hab).imp fun σ H Q h => by
  obtain ⟨fr, F, ρ, S, h⟩ := h
  unfold evMeth at h
  rw [dcont (k := fun c xs => bnd (evAs []) fun ar => noEr (callG n G (.d (.obj c xs) :: ar)))] at h
  refine Tat.obj h S fun F1 H1 ρ1 a dx vs xs s1 S1 h1 l1 k1 h => ?_
  refine ⟨a, dx, _, rfl, S1.fh _ _ h1, ?_⟩
  exact Tat.call (W := fun _ _ _ _ => False) (ar := [.d (.obj c xs)]) (Tat.noEr h) S1 (RAs.cons (Rp.obj h1 l1 k1) RAs.nil) fun _ _ _ z => z
/-! operators of own objects -/
def evOwn2 (n : Nat) (G : Fn) (c : Cl) (a b : Ev) : Ev := bnd (dat a) fun d => match d with
  | .obj c' xs => if c' = c then bnd (dat b) fun d2 => (match d2 with
      | .obj c2 ys => if c2 = c then noEr (callG n G [.d (.obj c xs), .d (.obj c ys)]) else fai
      | _ => fai) else fai
  | _ => fai
theorem w_own2 {c : Cl} {fa fb : Ev} {Q : VK} (h : TP K ct W (evOwn2 n G c fa fb) σ H Q) : tOp (OW.rOwn2 (ct.ad c) (spP K ct.ad n G) E0) (TP K ct W fa) (TP K ct W fb) σ H Q := by
  obtain ⟨fr, F, ρ, S, h⟩ := h
  refine Tat.obj h S fun F1 H1 ρ1 a dx vs xs s1 S1 h1 l1 k1 h => ?_
  refine Tat.obj h S1 fun F2 H2 ρ2 b dy us ys s2 S2 h2 l2 k2 h => ?_
  refine ⟨a, dx, _, b, dy, _, rfl, rfl, S2.fh _ _ (s2 _ _ h1), S2.fh _ _ h2, ?_⟩
  exact Tat.call (W := fun _ _ _ _ => False) (Tat.noEr h) S2 (RAs.cons ((Rp.obj h1 l1 k1).mono s2) (RAs.cons (Rp.obj h2 l2 k2) RAs.nil)) fun _ _ _ z => z
theorem pp_own2 {op : Operator} {m : Str} {a b : Expr} {fa fb : Ev} (c : Cl) (hm : m = PySem.dunder op.info.2) (M : Meth X.K (ct.ad c) m f) (hc : PySem.W.selfFirst X.K (ct.ad c) = true) (Fn : FnOk X.prog X.w X.K X.mg X.base CX k f fd ps (spP K ct.ad n G)) (hr : Room k X.A) (hb : Binds X.K fd ps []) (hx : Passes CX X E0)
    (ha : PE X a (TP K ct W fa)) (hbb : PE X b (TP K ct W fb)) : PE X (.BinOp a op b pos) (TP K ct W (evOwn2 n G c fa fb)) := (pe_op (OW.op_bin hm M hc Fn hr hb hx) ha hbb).imp fun _ _ _ => w_own2
theorem pp_owncmp {op : CmpOp} {m : Str} {a b : Expr} {fa fb : Ev} (c : Cl) (hm : m = (PySem.cmpInfo op).2.1) (hop : ∀ a b, compareOp op a b = richCompare op a b) (M : Meth X.K (ct.ad c) m f) (hn : PySem.W.notFirst X.K (ct.ad c) (.ref (ct.ad c)) = true) (Fn : FnOk X.prog X.w X.K X.mg X.base CX k f fd ps (spP K ct.ad n G)) (hr : Room k X.A) (hb : Binds X.K fd ps []) (hx : Passes CX X E0)
    (ha : PE X a (TP K ct W fa)) (hbb : PE X b (TP K ct W fb)) (hmk : behindInMarks op b = false) : PE X (.Compare a [op] [b] pos) (TP K ct W (evOwn2 n G c fa fb)) := (pe_cmpR (OW.op_cmp hm hop M hn Fn hr hb hx) ha hbb hmk).imp fun _ _ _ => w_own2
/-- x in o, o an own object -/
def evOwnIn (n : Nat) (G : Fn) (c : Cl) (a b : Ev) : Ev := bnd (dat a) fun x => bnd (dat b) fun d => match d with
  | .obj c' xs => if c' = c then tst (noEr (callG n G [.d (.obj c xs), .d x])) |> fun t => bnd t fun b => vD (.bl b) else fai
  | _ => fai
end
end PL
end
section
namespace PL
open PySem PySem.Spec PyProof.Rows L2
variable {K : PySem.W.Frag} {ad : Cl → Addr} {ct : CT}
variable {fr : Fr} {F F' H H' : Hp} {σ : L2.St} {ρ : List Sl} {W : WX}
/-! ### statements -/
def evSeq (s t : M Fl) : M Fl := fun ρ => match s ρ with
  | some (.ok .nx, ρ1) => t ρ1
  | r => r
def evNx : M Fl := pur .nx
def setD (i : Nat) (d : D) : M Fl := fun ρ => match ρ[i]? with
  | some (.cel .par _) => none
  | some _ => some (.ok .nx, ρ.set i (.dat d))
  | none => none
def setC (i : Nat) (c : CC) : M Fl := fun ρ => match ρ[i]? with
  | some (.cel .par _) => none
  | some _ => some (.ok .nx, ρ.set i (.cel .own c))
  | none => none
def evAsg (i : Nat) (e : Ev) : M Fl := bnd (dat e) fun d => setD i d
def evAsgC (i : Nat) (e : Ev) : M Fl := bnd e fun r => match r with | .c c => setC i c | .d _ => fai
def evEx (e : Ev) : M Fl := bnd e fun _ => pur .nx
def evRet (e : Ev) : M Fl := bnd e fun r => pur (.rt r)
def evIf (t : M Bool) (a b : M Fl) : M Fl := bnd t fun c => if c then a else b
variable (K ct) in
theorem Sat.bnd {R : Rel3 β α} {D : Ends} {m : M α} {k : α → M Fl} {Q1 : β → Hp → Prop} (h : Sat K ct W D fr F ρ (PL.bnd m k)) (S : Rel K ct fr F H σ ρ)
    (hW : ∀ σ' cls d H', W cls d σ' H' → W cls d σ' H')
    (hq : ∀ F1 H1 ρ1 v a, Same F F1 → Rel K ct fr F1 H1 σ ρ1 → R fr F1 H1 σ ρ1 v a → Sat K ct W D fr F1 ρ1 (k a) → Q1 v H1) : T K ct R W m σ H Q1 := by
  refine ⟨fr, F, ρ, S, ?_⟩
  obtain ⟨r, ρ', e, q⟩ := h
  unfold PL.bnd at e
  cases em : m ρ with
  | none => rw [em] at e; cases e
  | some x =>
    obtain ⟨r1, ρ1⟩ := x
    rw [em] at e
    cases r1 with
    | ok a =>
      refine ⟨.ok a, ρ1, em, fun v F1 H1 s1 S1 r1 => hq F1 H1 ρ1 v a s1 S1 r1 ⟨r, ρ', e, ?_⟩⟩
      cases r with
      | ok z =>
        cases z with
        | nx => exact fun σ' F' H' s' => q σ' F' H' (s1.trans s')
        | bk => exact fun σ' F' H' s' => q σ' F' H' (s1.trans s')
        | ct => exact fun σ' F' H' s' => q σ' F' H' (s1.trans s')
        | rt x => exact fun σ' v F' H' s' => q σ' v F' H' (s1.trans s')
      | er c pl => exact fun σ' d F' H' s' => q σ' d F' H' (s1.trans s')
    | er c pl =>
      refine ⟨.er c pl, ρ1, em, ?_⟩
      have e : (some (Ex.er c pl, ρ1) : Option (Ex Fl × List Sl)) = some (r, ρ') := e
      cases e
      exact fun d F' H' s' S' pr => q σ d F' H' s' S' pr
theorem Sat.mono {D : Ends} {s : M Fl} (h : Sat K ct W D fr F ρ s) (s1 : Same F F') : Sat K ct W D fr F' ρ s := by
  obtain ⟨r, ρ', e, q⟩ := h
  refine ⟨r, ρ', e, ?_⟩
  cases r with
  | ok z =>
    cases z with
    | nx => exact fun σ' F' H' s' => q σ' F' H' (s1.trans s')
    | bk => exact fun σ' F' H' s' => q σ' F' H' (s1.trans s')
    | ct => exact fun σ' F' H' s' => q σ' F' H' (s1.trans s')
    | rt x => exact fun σ' v F' H' s' => q σ' v F' H' (s1.trans s')
  | er c pl => exact fun σ' d F' H' s' => q σ' d F' H' (s1.trans s')
/-- .. of data -/
theorem Sat.dat {D : Ends} {m : Ev} {k : PL.D → M Fl} {Q1 : V → Hp → Prop} (h : Sat K ct W D fr F ρ (PL.bnd (PL.dat m) k)) (S : Rel K ct fr F H σ ρ)
    (hq : ∀ F1 H1 ρ1 v d, Same F F1 → Rel K ct fr F1 H1 σ ρ1 → Rp K ct.ad F1 v d → Sat K ct W D fr F1 ρ1 (k d) → Q1 v H1) : T K ct (RV K ct.ad) W m σ H Q1 := by
  have e : PL.bnd (PL.dat m) k = PL.bnd m fun r => PL.bnd (match r with | Rv.d d => pur d | Rv.c c => PL.opt c.froz) k := by
    funext ρ
    unfold PL.dat PL.bnd
    cases em : m ρ with
    | none => rfl
    | some x =>
      obtain ⟨r1, ρ1⟩ := x
      cases r1 with
      | ok a => cases a <;> rfl
      | er c pl => rfl
  rw [e] at h
  refine Sat.bnd K ct h S (fun _ _ _ _ z => z) fun F1 H1 ρ1 v r s1 S1 r1 q => ?_
  cases r with
  | d d => exact hq F1 H1 ρ1 v d s1 S1 r1 q
  | c c =>
    obtain ⟨p, ev, fp⟩ := r1
    subst ev
    cases ef : c.froz with
    | none =>
      obtain ⟨r, ρ', e, q⟩ := q
      have e : PL.bnd (PL.opt c.froz) k ρ1 = some (r, ρ') := e
      rw [ef] at e
      cases e
    | some d =>
      obtain ⟨F2, s2, rp, S2⟩ := fp.frz S1 ef
      refine hq F2 H1 ρ1 _ d (s1.trans s2) S2 rp ?_
      have q2 := q.mono s2
      obtain ⟨r, ρ', e, q⟩ := q2
      have e : PL.bnd (PL.opt c.froz) k ρ1 = some (r, ρ') := e
      rw [ef] at e
      exact ⟨r, ρ', e, q⟩
theorem Sat.to {D : Ends} {s : M Fl} (h : Sat K ct W D fr F ρ s) (S : Rel K ct fr F H σ ρ) : TSt K ct W s D σ H := ⟨fr, F, ρ, S, h⟩
theorem Sat.nx {D : Ends} (h : Sat K ct W D fr F ρ (pur .nx)) {σ' : L2.St} {H' : Hp} (s : Same F F') (S : Rel K ct fr F' H' σ' ρ) : D.nx σ' H' := by
  obtain ⟨r, ρ', e, q⟩ := h
  cases e
  exact q σ' F' H' s S
theorem Rel.npar (S : Rel K ct fr F H σ ρ) {i : Nat} {s : Sl} (e : ρ[i]? = some s) (h : ∀ c, s ≠ .cel .par c) : fr.pa i = none := by
  cases z : fr.pa i with
  | none => rfl
  | some q =>
    obtain ⟨k1, c1, h1, h2⟩ := S.pcs i q z
    rw [e] at h1
    cases h1
    cases k1 with
    | own => cases h2
    | par => exact absurd rfl (h c1)
theorem Sat.setD {D : Ends} {i : Nat} {d : PL.D} {v : V} (h : Sat K ct W D fr F ρ (PL.setD i d)) (S : Rel K ct fr F H σ ρ) (r : Rp K ct.ad F v d) : D.nx (σ.set i (some v)) H := by
  obtain ⟨r0, ρ', e, q⟩ := h
  unfold PL.setD at e
  split at e
  · cases e
  · rename_i s hn hs
    cases e
    exact q _ F H (Same.refl _) (S.setD r (S.npar hs hn))
  · cases e
theorem Sat.setC {D : Ends} {i : Nat} {c : CC} {p : Addr} (h : Sat K ct W D fr F ρ (PL.setC i c)) (S : Rel K ct fr F H σ ρ) (r : Fresh K ct.ad fr F H σ ρ p c) : D.nx (σ.set i (some (.ref p))) H := by
  obtain ⟨r0, ρ', e, q⟩ := h
  unfold PL.setC at e
  split at e
  · cases e
  · rename_i s hn hs
    cases e
    exact q _ F H (Same.refl _) (S.setC r (S.npar hs hn))
  · cases e
section
variable {X : Cx} {e : Expr} {m : Ev} {pos pos' : Pos} {s t : M Fl} {tb : M Bool} {st : Stmt} {sts : List Stmt}
theorem ss_c (h1 : PS X st (TSt K ct W s)) (h2 : PSs X sts (TSt K ct W t)) : PSs X (st :: sts) (TSt K ct W (evSeq s t)) := (pss_cons h1 h2).imp fun D σ H h => by
  obtain ⟨fr, F, ρ, S, r, ρ', e, q⟩ := h
  refine ⟨fr, F, ρ, S, ?_⟩
  unfold evSeq at e
  cases es : s ρ with
  | none => rw [es] at e; cases e
  | some x =>
    obtain ⟨r1, ρ1⟩ := x
    rw [es] at e
    refine ⟨r1, ρ1, es, ?_⟩
    cases r1 with
    | ok fl =>
      cases fl with
      | nx =>
        intro σ1 F1 H1 s1 S1
        refine ⟨fr, F1, ρ1, S1, Sat.mono ⟨r, ρ', e, q⟩ s1⟩
      | bk => cases e; exact q
      | ct => cases e; exact q
      | rt x => cases e; exact q
    | er c pl => cases e; exact q
theorem ss_1 (h1 : PS X st (TSt K ct W s)) : PSs X [st] (TSt K ct W s) := (pss_one h1).imp fun D σ H h => h
theorem ss_n : PSs X [] (TSt K ct W evNx) := pss_nil.imp fun D σ H ⟨fr, F, ρ, S, h⟩ => h.nx (Same.refl _) S
theorem s_set {i : Nat} {x : Str} (hN : X.N.Nodup) (hi : X.N[i]? = some x) (hx : Loc X.env.scope x) (he : PE X e (TP K ct W m)) (hs : swapsWith e (some (.Name x pos')) pos.line X.env = pure false := by rfl) (hf : X.fn x = true ∨ X.env.scope.names.lookup x = some .local := by first | exact .inl rfl | exact .inr rfl | assumption) :
    PS X (.Assign [.Name x pos'] e pos) (TSt K ct W (evAsg i m)) := (ps_set hN hi hx he hs hf).imp fun D σ H ⟨fr, F, ρ, S, h⟩ => h.dat S fun F1 H1 ρ1 v d s1 S1 r1 h => h.setD S1 r1
theorem w_setC {i : Nat} {D : Ends} (h : TSt K ct W (evAsgC i m) D σ H) : tAsg (TP K ct W m) (gName i) D σ H := by
  obtain ⟨fr, F, ρ, S, h⟩ := h
  refine Sat.bnd K ct h S (fun _ _ _ _ z => z) fun F1 H1 ρ1 v r s1 S1 r1 h => ?_
  cases r with
  | d d => obtain ⟨_, _, e, _⟩ := h; cases e
  | c c => obtain ⟨p, ev, fp⟩ := r1; subst ev; exact Sat.setC h S1 fp
theorem s_setC {i : Nat} {x : Str} (hN : X.N.Nodup) (hi : X.N[i]? = some x) (hx : Loc X.env.scope x) (he : PE X e (TP K ct W m)) (hs : swapsWith e (some (.Name x pos')) pos.line X.env = pure false := by rfl) (hf : X.fn x = true ∨ X.env.scope.names.lookup x = some .local := by first | exact .inl rfl | exact .inr rfl | assumption) :
    PS X (.Assign [.Name x pos'] e pos) (TSt K ct W (evAsgC i m)) := (ps_set hN hi hx he hs hf).imp fun D σ H => w_setC
theorem s_ex (he : PE X e (TP K ct W m)) (hs : swapsWith e none pos.line X.env = pure false := by rfl) : PS X (.Expr e pos) (TSt K ct W (evEx m)) := (ps_expr he hs).imp fun D σ H ⟨fr, F, ρ, S, h⟩ => Sat.bnd K ct h S (fun _ _ _ _ z => z) fun F1 H1 ρ1 v r s1 S1 r1 h => Sat.nx h (Same.refl _) S1
theorem s_ret (he : PE X e (TP K ct W m)) : PS X (.Return (some e) pos) (TSt K ct W (evRet m)) := (ps_ret he).imp fun D σ H ⟨fr, F, ρ, S, h⟩ => Sat.bnd K ct h S (fun _ _ _ _ z => z) fun F1 H1 ρ1 v r s1 S1 r1 ⟨_, _, e, q⟩ => by
  cases e
  exact q σ v F1 H1 (Same.refl _) S1 r1
theorem s_if {c : Expr} {a b : List Stmt} (hc : PT X c (TB K ct W tb)) (ha : PSs X a (TSt K ct W s)) (hb : PSs X b (TSt K ct W t)) : PS X (.If c a b pos) (TSt K ct W (evIf tb s t)) := (ps_if hc ha hb).imp fun D σ H ⟨fr, F, ρ, S, h⟩ =>
  Sat.bnd K ct h S (fun _ _ _ _ z => z) fun F1 H1 ρ1 v c s1 S1 r1 h => by
    cases r1
    cases v with
    | true => rw [if_pos rfl]; exact h.to S1
    | false => rw [if_neg Bool.false_ne_true]; exact h.to S1
end
/-! ### targets -/
inductive Tg | n (i : Nat) | t (ts : List Tg)
mutual
def asgT : Tg → D → M Fl
  | .n i, d => setD i d
  | .t ts, .tup xs => asgTs ts xs
  | .t _, _ => fai
def asgTs : List Tg → List D → M Fl
  | [], [] => pur .nx
  | t :: ts, x :: xs => evSeq (asgT t x) (asgTs ts xs)
  | _, _ => fai
end
mutual
def Tg.sl : Tg → List Nat
  | .n i => [i]
  | .t ts => Tg.sls ts
def Tg.sls : List Tg → List Nat
  | [] => []
  | x :: xs => Tg.sl x ++ Tg.sls xs
end
/-- the slots outside vs are as they were -/
def OutS (vs : List Nat) (σ σ' : L2.St) : Prop := σ'.length = σ.length ∧ ∀ i, i ∉ vs → σ'[i]? = σ[i]?
theorem OutS.refl {vs : List Nat} {σ : L2.St} : OutS vs σ σ := ⟨rfl, fun _ _ => rfl⟩
theorem OutS.trans {vs : List Nat} {σ σ1 σ2 : L2.St} (a : OutS vs σ σ1) (b : OutS vs σ1 σ2) : OutS vs σ σ2 := ⟨b.1.trans a.1, fun i h => (b.2 i h).trans (a.2 i h)⟩
theorem OutS.sub {vs ws : List Nat} {σ σ1 : L2.St} (a : OutS vs σ σ1) (h : ∀ i ∈ vs, i ∈ ws) : OutS ws σ σ1 := ⟨a.1, fun i q => a.2 i fun z => q (h i z)⟩
theorem wipe_get (σ : L2.St) : ∀ (vs : List Nat) (i : Nat), (wipe σ vs)[i]? = if i ∈ vs ∧ i < σ.length then some none else σ[i]?
  | [], i => by simp [wipe]
  | v :: vs, i => by
    have ih := wipe_get σ vs i
    show ((wipe σ vs).set v none)[i]? = _
    by_cases q : v = i
    · subst q
      by_cases l : v < σ.length
      · rw [List.getElem?_set_self (by rw [wipe_length]; exact l), if_pos ⟨List.mem_cons_self, l⟩]
      · rw [List.getElem?_eq_none (by rw [List.length_set, wipe_length]; omega), if_neg (fun z => l z.2), List.getElem?_eq_none (by omega)]
    · rw [List.getElem?_set_ne q, ih]
      by_cases m : i ∈ vs
      · by_cases l : i < σ.length
        · rw [if_pos ⟨m, l⟩, if_pos ⟨List.mem_cons_of_mem _ m, l⟩]
        · rw [if_neg (fun z => l z.2), if_neg (fun z => l z.2)]
      · rw [if_neg (fun z => m z.1), if_neg (fun z => (List.mem_cons.mp z.1).elim (fun w => q w.symm) m)]
theorem OutS.wipe {vs : List Nat} {σ σ' : L2.St} (a : OutS vs σ σ') : L2.wipe σ' vs = L2.wipe σ vs := by
  refine List.ext_getElem? fun i => ?_
  rw [wipe_get, wipe_get, a.1]
  split
  · rfl
  · rename_i h
    by_cases m : i ∈ vs
    · have l : ¬ i < σ.length := fun z => h ⟨m, z⟩
      rw [List.getElem?_eq_none (by rw [a.1]; omega), List.getElem?_eq_none (by omega)]
    · exact a.2 i m
theorem OutS.set {i : Nat} {v : Option V} {σ : L2.St} : OutS [i] σ (σ.set i v) := ⟨by simp, fun j h => List.getElem?_set_ne (fun z => h (by simp [z]))⟩
variable (K ct) in
def TGt (tg : Tg) : TG := fun v σ H Q => ∃ fr F ρ d ρ', Rel K ct fr F H σ ρ ∧ Rp K ct.ad F v d ∧ asgT tg d ρ = some (.ok .nx, ρ') ∧ ∀ σ' F' H', Same F F' → OutS tg.sl σ σ' → Rel K ct fr F' H' σ' ρ' → Q σ' H'
variable (K ct) in
def TGts (tg : List Tg) : TGs := fun vs σ H Q => ∃ fr F ρ ds ρ', Rel K ct fr F H σ ρ ∧ Rps K ct.ad F vs ds ∧ asgTs tg ds ρ = some (.ok .nx, ρ') ∧ ∀ σ' F' H', Same F F' → OutS (Tg.sls tg) σ σ' → Rel K ct fr F' H' σ' ρ' → Q σ' H'
theorem setD_ok {i : Nat} {d : D} {v : V} {ρ' : List Sl} (e : setD i d ρ = some (.ok .nx, ρ')) (S : Rel K ct fr F H σ ρ) (r : Rp K ct.ad F v d) : Rel K ct fr F H (σ.set i (some v)) ρ' := by
  unfold PL.setD at e
  split at e
  · cases e
  · rename_i s hn hs
    cases e
    exact S.setD r (S.npar hs hn)
  · cases e
section
variable {X : Cx} {pos : Pos}
theorem _root_.L2.PGs.imp {es : List Expr} {t t' : TGs} (h : PGs X es t) (w : ∀ v σ H Q, t' v σ H Q → t v σ H Q) : PGs X es t' := ⟨fun pins s σ H v u Q I r q => h.run pins s σ H v u Q I r (w v σ H Q q)⟩
theorem g_n {i : Nat} {x : Str} (hN : X.N.Nodup) (hi : X.N[i]? = some x) (hx : Loc X.env.scope x) (hf : X.fn x = true ∨ X.env.scope.names.lookup x = some .local := by first | exact .inl rfl | exact .inr rfl | assumption) : PG X (.Name x pos) (TGt K ct (.n i)) :=
  (pg_name hN hi hx hf).imp fun v σ H Q ⟨fr, F, ρ, d, ρ', S, r, e, q⟩ => q _ F H (Same.refl _) OutS.set (setD_ok e S r)
theorem gs_n : PGs X [] (TGts K ct []) := pgs_nil.imp fun v σ H Q ⟨fr, F, ρ, ds, ρ', S, r, e, q⟩ => by
  cases ds with
  | nil => cases r; cases e; exact ⟨rfl, q σ F H (Same.refl _) OutS.refl S⟩
  | cons d ds => cases e
theorem gs_c {e : Expr} {es : List Expr} {t : Tg} {ts : List Tg} (h1 : PG X e (TGt K ct t)) (h2 : PGs X es (TGts K ct ts))
    (hs : (assignEach (e :: es) X.env).map (·.2) = assign e X.env :: (assignEach es X.env).map (·.2) := by rfl) : PGs X (e :: es) (TGts K ct (t :: ts)) := (pgs_cons h1 h2 hs).imp fun vs σ H Q ⟨fr, F, ρ, ds, ρ', S, r, e, q⟩ => by
  cases ds with
  | nil => cases e
  | cons d ds =>
    cases r with
    | @cons v _ vs _ r rs =>
      have e : evSeq (asgT t d) (asgTs ts ds) ρ = some (.ok .nx, ρ') := e
      unfold evSeq at e
      split at e
      · rename_i ρ1 h1
        refine ⟨v, vs, rfl, fr, F, ρ, d, ρ1, S, r, h1, fun σ1 F1 H1 s1 o1 S1 => ?_⟩
        exact ⟨fr, F1, ρ1, ds, ρ', S1, rs.mono s1, e, fun σ2 F2 H2 s2 o2 S2 => q σ2 F2 H2 (s1.trans s2) (by rw [Tg.sls]; exact (o1.sub fun i z => List.mem_append_left _ z).trans (o2.sub fun i z => List.mem_append_right _ z)) S2⟩
      · rename_i h1
        exact absurd e (h1 ρ')
theorem g_t {es : List Expr} {k : Nat} {ts : List Tg} (eK : X.K = K) (hc : X.calm = true) (h : PGs X es (TGts K ct ts)) (hn : (assignEach es X.env).length = ts.length := by rfl) (hst : (assignEach es X.env).findIdx? (·.1) = none := by rfl) : PG X (.Tuple es k pos) (TGt K ct (.t ts)) := by
  subst eK
  refine (pg_tup (n := ts.length) hc h hn hst).imp fun v σ H Q ⟨fr, F, ρ, d, ρ', S, r, e, q⟩ => ?_
  cases d with
  | tup xs =>
    cases r with
    | @tup p vs _ h1 k1 =>
      have e : asgTs ts xs ρ = some (.ok .nx, ρ') := e
      have lens : ∀ (ts : List Tg) (xs : List D) (ρ ρ' : List Sl), asgTs ts xs ρ = some (.ok .nx, ρ') → xs.length = ts.length := by
        intro ts
        induction ts with
        | nil => intro xs ρ ρ' e; cases xs with | nil => rfl | cons _ _ => cases e
        | cons t ts ih =>
          intro xs ρ ρ' e
          cases xs with
          | nil => cases e
          | cons x xs =>
            have e : evSeq (asgT t x) (asgTs ts xs) ρ = some (.ok .nx, ρ') := e
            unfold evSeq at e
            split at e
            · rename_i ρ1 h1; rw [List.length_cons, List.length_cons, ih _ _ _ e]
            · rename_i h1; exact absurd e (h1 ρ')
      exact ⟨p, vs, rfl, sameT S.fh h1, by rw [k1.len]; exact lens _ _ _ _ e, fr, F, ρ, xs, ρ', S, k1, e, q⟩
  | _ => cases e
/-- a, b = e -/
def evAsgT (tg : Tg) (e : Ev) : M Fl := bnd (dat e) fun d => fun ρ => match asgT tg d ρ with | some (.ok .nx, ρ') => some (.ok .nx, ρ') | _ => none
end
/-! ### loops -/
/-- heaps that grow by new objects -/
def Al (F H F' H' : Hp) : Prop := Same F F' ∧ Same H H' ∧ Same F' H' ∧ ∀ b, H b ≠ none → F b = none → F' b = none
theorem Rel.al (S : Rel K ct fr F H σ ρ) (a : Al F H F' H') : Rel K ct fr F' H' σ ρ := S.grow a.1 a.2.1 a.2.2.1 a.2.2.2
theorem Al.refl (s : Same F H) : Al F H F H := ⟨Same.refl _, Same.refl _, s, fun _ _ z => z⟩
variable (K ad) in
def ItOk (F : Hp) (xs : List D) (J : It) : Prop := ∀ F1 H1, Same F F1 → Same F1 H1 → ∀ i, (∀ x, xs[i]? = some x → J.go i H1 ∧ ∀ v H2, J.yld i H1 v H2 → ∃ F2, Al F1 H1 F2 H2 ∧ Rp K ad F2 v x) ∧ (xs.length ≤ i → J.stop i H1)
variable (K ad) in
def RI : Rel3 It (List D) := fun _ F _ _ _ J xs => ItOk K ad F xs J
variable (K ct) in
abbrev TIt (W : WX) (m : M (List D)) : TI := T K ct (RI K ct.ad) W m
def loop (tg : Tg) (body : M Fl) : List D → M Fl
  | [] => pur .nx
  | x :: xs => fun ρ => match asgT tg x ρ with
    | some (.ok .nx, ρ1) => (match body ρ1 with
      | some (.ok .nx, ρ2) => loop tg body xs ρ2
      | some (.ok .ct, ρ2) => loop tg body xs ρ2
      | some (.ok .bk, ρ2) => some (.ok .nx, ρ2)
      | r => r)
    | _ => none
def evFor (it : M (List D)) (tg : Tg) (body : M Fl) : M Fl := bnd it fun xs => loop tg body xs
theorem w_for {it : M (List D)} {tg : Tg} {body : M Fl} {D : Ends} (h : TSt K ct W (evFor it tg body) D σ H) : tFor (TIt K ct W it) (TGt K ct tg) (TSt K ct W body) D σ H := by
  obtain ⟨fr, F, ρ, S, h⟩ := h
  refine Sat.bnd K ct h S (fun _ _ _ _ z => z) fun F1 H1 ρ1 J xs s1 S1 r1 h => ?_
  refine ⟨fun i m σ H => m = xs.length - i ∧ i ≤ xs.length ∧ ∃ F2 ρ2, Same F1 F2 ∧ Rel K ct fr F2 H σ ρ2 ∧ Sat K ct W D fr F2 ρ2 (loop tg body (xs.drop i)), ⟨xs.length, by simp, Nat.zero_le _, F1, ρ1, Same.refl _, S1, h⟩, ?_⟩
  rintro i m σ2 H2 ⟨rfl, hi, F2, ρ2, s2, S2, h2⟩
  have it := r1 F2 H2 s2 S2.fh i
  by_cases lt : i < xs.length
  · refine .inr ?_
    obtain ⟨go, yl⟩ := it.1 xs[i] (List.getElem?_eq_getElem lt)
    refine ⟨go, fun σ' H' => ∃ F3 ρ3, Same F1 F3 ∧ Rel K ct fr F3 H' σ' ρ3 ∧ Sat K ct W D fr F3 ρ3 (loop tg body (xs.drop (i + 1))), fun σ' H' ⟨F3, ρ3, s3, S3, h3⟩ => ⟨xs.length - (i + 1), by omega, rfl, lt, F3, ρ3, s3, S3, h3⟩, fun v H3 y => ?_⟩
    obtain ⟨F3, al, rp⟩ := yl v H3 y
    have S3 := S2.al al
    rw [List.drop_eq_getElem_cons lt] at h2
    have h2 := Sat.mono h2 al.1
    obtain ⟨r, ρ', e, q⟩ := h2
    unfold loop at e
    cases ea : asgT tg xs[i] ρ2 with
    | none => rw [ea] at e; cases e
    | some x =>
      obtain ⟨rx, ρ4⟩ := x
      rw [ea] at e
      cases rx with
      | er c pl => cases e
      | ok fl =>
        cases fl with
        | nx =>
          refine ⟨fr, F3, ρ2, xs[i], ρ4, S3, rp, ea, fun σ4 F4 H4 s4 _ S4 => ⟨fr, F4, ρ4, S4, ?_⟩⟩
          have e : (match body ρ4 with | some (.ok .nx, ρ2) => loop tg body (xs.drop (i + 1)) ρ2 | some (.ok .ct, ρ2) => loop tg body (xs.drop (i + 1)) ρ2 | some (.ok .bk, ρ2) => some (.ok .nx, ρ2) | r => r) = some (r, ρ') := e
          cases eb : body ρ4 with
          | none => rw [eb] at e; cases e
          | some y =>
            obtain ⟨ry, ρ5⟩ := y
            rw [eb] at e
            have sF : Same F1 F4 := (s2.trans al.1).trans s4
            have next : ∀ (e : loop tg body (xs.drop (i + 1)) ρ5 = some (r, ρ')) σ' F' H', Same F4 F' → Rel K ct fr F' H' σ' ρ5 → ∃ F3 ρ3, Same F1 F3 ∧ Rel K ct fr F3 H' σ' ρ3 ∧ Sat K ct W D fr F3 ρ3 (loop tg body (xs.drop (i + 1))) := fun e σ' F' H' s' S' =>
              ⟨F', ρ5, sF.trans s', S', Sat.mono (F := F3) ⟨r, ρ', e, q⟩ (s4.trans s')⟩
            refine ⟨ry, ρ5, eb, ?_⟩
            cases ry with
            | er c pl => cases e; exact fun σ' d F' H' s' => q σ' d F' H' (s4.trans s')
            | ok fl =>
              cases fl with
              | nx => exact next e
              | ct => exact next e
              | bk => cases e; exact fun σ' F' H' s' => q σ' F' H' (s4.trans s')
              | rt x => cases e; exact fun σ' v F' H' s' => q σ' v F' H' (s4.trans s')
        | _ => cases e
  · refine .inl ⟨it.2 (by omega), ?_⟩
    rw [List.drop_eq_nil_of_le (by omega)] at h2
    exact Sat.nx h2 (Same.refl _) S2
theorem s_for {X : Cx} {tg iter : Expr} {body : List Stmt} {it : M (List D)} {t : Tg} {b : M Fl} {pos : Pos} (hp : PassesOwn (model X.prog X.w) X.A X.env X.xe) (hc : X.calm = true) (hi : PI X tg iter (TIt K ct W it)) (hg : PG X tg (TGt K ct t)) (hb : PSs X body (TSt K ct W b))
    (hs : ∀ x, foldedSetIterable iter X.env x = pure x := by intro _; rfl) : PS X (.For tg iter body [] pos) (TSt K ct W (evFor it t b)) := (ps_for hp hc hi hg hb hs).imp fun D σ H => w_for
/-! while -/
def whl (t : M Bool) (body : M Fl) : Nat → M Fl
  | 0 => fai
  | n + 1 => bnd t fun c => if c then (fun ρ => match body ρ with
      | some (.ok .nx, ρ1) => whl t body n ρ1
      | some (.ok .ct, ρ1) => whl t body n ρ1
      | some (.ok .bk, ρ1) => some (.ok .nx, ρ1)
      | r => r) else pur .nx
open Classical in
/-- what a while that ends gives -/
noncomputable def evWhl (t : M Bool) (body : M Fl) : M Fl := fun ρ => if h : ∃ n r, whl t body n ρ = some r then some h.choose_spec.choose else none
end PL
end
section
namespace PL
open PySem PySem.Spec PyProof.Rows L2
variable {K : PySem.W.Frag} {ad : Cl → Addr} {ct : CT}
variable {fr : Fr} {F F' H H' : Hp} {σ : L2.St} {ρ : List Sl} {W : WX}
/-! ### what is walked -/
def D.litems : D → Option (List D) | .lst xs => some xs | .sq xs => some xs | _ => none
def D.titems : D → Option (List D) | .tup xs => some xs | _ => none
def chars (z : Str) : List D := z.cps.toList.map fun c => .str ⟨#[c]⟩
def D.sitems : D → Option (List D) | .str z => some (chars z) | _ => none
def itL (e : Ev) : M (List D) := bnd (dat e) fun d => opt d.litems
def itT (e : Ev) : M (List D) := bnd (dat e) fun d => opt d.titems
def itS (e : Ev) : M (List D) := bnd (dat e) fun d => opt d.sitems
def rngD (lo : Int) (n : Nat) : List D := (List.range n).map fun (i : Nat) => .int (lo + i)
def itR1 (e : Ev) : M (List D) := bnd (dat e) fun d => match d with | .int j => if -(2 ^ 62) ≤ j ∧ j < 2 ^ 62 then pur (rngD 0 j.toNat) else fai | _ => fai
def itR2 (a b : Ev) : M (List D) := bnd (dat a) fun x => bnd (dat b) fun y => match x, y with
  | .int i, .int j => if -(2 ^ 62) ≤ i ∧ i < 2 ^ 62 ∧ -(2 ^ 62) ≤ j ∧ j < 2 ^ 62 then pur (rngD i (j - i).toNat) else fai
  | _, _ => fai
theorem it_rng {lo : Int} {n : Nat} : ItOk K ct.ad F (rngD lo n) (Itr lo n) := by
  intro F1 H1 s1 s2 i
  refine ⟨fun x e => ?_, fun l => by unfold rngD at l; rw [List.length_map, List.length_range] at l; exact l⟩
  unfold rngD at e
  rw [List.getElem?_map] at e
  obtain ⟨j, e1, e2⟩ := Option.map_eq_some_iff.mp e
  obtain ⟨l, e3⟩ := List.getElem?_eq_some_iff.mp e1
  rw [List.length_range] at l
  rw [List.getElem_range] at e3
  subst e3
  subst e2
  refine ⟨l, fun v H2 y => ?_⟩
  obtain ⟨y1, y2⟩ := y
  subst y1 y2
  exact ⟨F1, Al.refl s2, .int _⟩
theorem it_str {z : Str} : ItOk K ct.ad F (chars z) (Its z) := by
  intro F1 H1 s1 s2 i
  refine ⟨fun x e => ?_, fun l => by unfold chars at l; rw [List.length_map, Array.length_toList] at l; exact l⟩
  unfold chars at e
  rw [List.getElem?_map] at e
  obtain ⟨c, e1, e2⟩ := Option.map_eq_some_iff.mp e
  subst e2
  have e1' : z.cps[i]? = some c := by rw [← Array.getElem?_toList]; exact e1
  refine ⟨(Array.getElem?_eq_some_iff.mp e1').1, fun v H2 y => ?_⟩
  obtain ⟨y1, c', y2, y3⟩ := y
  rw [e1'] at y2
  cases y2
  subst y1 y3
  exact ⟨F1, Al.refl s2, .str _⟩
section
variable {X : Cx} {tg l : Expr} {m : Ev}
theorem pi_s (hl : PE X l (TP K ct W m)) : PI X tg l (TIt K ct W (itS m)) := by
  refine (pi_str hl).imp fun σ H R h => ?_
  obtain ⟨fr, F, ρ, S, h⟩ := h
  refine Tat.dat h S fun F1 H1 ρ1 v d s1 S1 r1 h => ?_
  obtain ⟨xs, e1, q⟩ := h.opt
  cases d <;> cases e1
  rename_i z
  cases r1
  exact ⟨z, rfl, q _ F1 H1 (Same.refl _) S1 it_str⟩
theorem pi_r1 {a : Expr} {p pos : Pos} {m : Ev} (hg : Gl X "range") (hm : X.mg "range" = none) (ha : PE X a (TP K ct W m)) (hs : starEach [a] X.env = [(false, eval a X.env)] := by rfl) : PI X tg (.Call (.Name "range" p) [a] [] pos) (TIt K ct W (itR1 m)) := by
  refine (pi_range1 hg hm (pa_cons ha pa_nil (by rw [hs]; rfl)) hs).imp fun σ H R h => ?_
  obtain ⟨fr, F, ρ, S, h⟩ := h
  refine Tat.dat h S fun F1 H1 ρ1 v d s1 S1 r1 h => ?_
  cases d with
  | int j =>
    cases r1
    have h : Tat K ct (RI K ct.ad) W fr F1 ρ1 (if -(2 ^ 62) ≤ j ∧ j < 2 ^ 62 then pur (rngD 0 j.toNat) else fai) σ R := h
    split at h
    · rename_i c
      exact ⟨j, rfl, c.1, c.2, Tat.ok h _ F1 H1 (Same.refl _) S1 it_rng⟩
    · obtain ⟨_, _, e, _⟩ := h; cases e
  | _ => obtain ⟨_, _, e, _⟩ := h; cases e
theorem pi_r2 {a b : Expr} {p pos : Pos} {m n : Ev} (hg : Gl X "range") (hm : X.mg "range" = none) (ha : PE X a (TP K ct W m)) (hb : PE X b (TP K ct W n)) (hs : starEach [a, b] X.env = [(false, eval a X.env), (false, eval b X.env)] := by rfl) (hs2 : starEach [b] X.env = [(false, eval b X.env)] := by rfl) : PI X tg (.Call (.Name "range" p) [a, b] [] pos) (TIt K ct W (itR2 m n)) := by
  refine (pi_range2 hg hm (pa_cons ha (pa_cons hb pa_nil (by rw [hs2]; rfl)) (by rw [hs, hs2])) hs hs2).imp fun σ H R h => ?_
  obtain ⟨fr, F, ρ, S, h⟩ := h
  refine Tat.dat h S fun F1 H1 ρ1 v d s1 S1 r1 h => ?_
  refine Tat.dat h S1 fun F2 H2 ρ2 u e s2 S2 r2 h => ?_
  have r1 := r1.mono s2
  cases d with
  | int i =>
    cases e with
    | int j =>
      cases r1
      cases r2
      have h : Tat K ct (RI K ct.ad) W fr F2 ρ2 (if -(2 ^ 62) ≤ i ∧ i < 2 ^ 62 ∧ -(2 ^ 62) ≤ j ∧ j < 2 ^ 62 then pur (rngD i (j - i).toNat) else fai) σ R := h
      split at h
      · rename_i c
        exact ⟨i, j, rfl, c, Tat.ok h _ F2 H2 (Same.refl _) S2 it_rng⟩
      · obtain ⟨_, _, e, _⟩ := h; cases e
    | _ => obtain ⟨_, _, e, _⟩ := h; cases e
  | _ => obtain ⟨_, _, e, _⟩ := h; cases e
end
/-! ### comprehensions -/
def wipeR (ρ : List Sl) : List Nat → List Sl
  | [] => ρ
  | v :: vs => (wipeR ρ vs).set v .un
def okOwn (ρ : List Sl) (vs : List Nat) : Bool := vs.all fun v => match ρ[v]? with | some (.cel _ _) => false | some (.exn _ _) => false | _ => true
def restR (ρ0 ρ : List Sl) : List Nat → List Sl
  | [] => ρ
  | v :: vs => (restR ρ0 ρ vs).set v ((ρ0[v]?).getD .un)
def lcGo (vs : List Nat) (tg : Tg) (c : M Bool) (e : Ev) : List D → List D → M (List D)
  | [], acc => pur acc
  | x :: xs, acc => fun ρ => match asgT tg x ρ with
    | some (.ok .nx, ρ1) => bnd (noEr c) (fun b => if b then bnd (dat (noEr e)) (fun d => if acc.length < 16777216 then (fun ρ => lcGo vs tg c e xs (acc ++ [d]) (wipeR ρ vs)) else fai) else fun ρ => lcGo vs tg c e xs acc (wipeR ρ vs)) ρ1
    | _ => none
def lcRun (vs : List Nat) (m : List D → List D → M (List D)) (xs : List D) : Ev := fun ρ => if okOwn ρ vs then match m xs [] (wipeR ρ vs) with
    | some (.ok acc, ρ') => some (.ok (.c (.lst acc)), restR ρ ρ' vs)
    | _ => none
  else none
def evLc (vs : List Nat) (it : M (List D)) (tg : Tg) (c : M Bool) (e : Ev) : Ev := bnd it fun xs => lcRun vs (lcGo vs tg c e) xs
theorem okOwn_np {vs : List Nat} (S : Rel K ct fr F H σ ρ) (h : okOwn ρ vs = true) : ∀ v ∈ vs, fr.pa v = none := fun v hv => by
  have h1 := List.all_eq_true.mp h v hv
  cases z : fr.pa v with
  | none => rfl
  | some p =>
    obtain ⟨k, c, e, _⟩ := S.pcs v p z
    rw [e] at h1
    cases h1
theorem Rel.wipe : ∀ {vs : List Nat}, Rel K ct fr F H σ ρ → (∀ v ∈ vs, fr.pa v = none) → Rel K ct fr F H (L2.wipe σ vs) (wipeR ρ vs)
  | [], S, _ => S
  | v :: vs, S, h => (Rel.wipe S fun x hx => h x (List.mem_cons_of_mem _ hx)).setU (h v List.mem_cons_self)
theorem restR_len (ρ0 ρ : List Sl) : ∀ vs : List Nat, (restR ρ0 ρ vs).length = ρ.length
  | [] => rfl
  | v :: vs => by unfold restR; rw [List.length_set, restR_len ρ0 ρ vs]
theorem restR_get (ρ0 ρ : List Sl) : ∀ (vs : List Nat) (i : Nat), (restR ρ0 ρ vs)[i]? = if i ∈ vs ∧ i < ρ.length then some ((ρ0[i]?).getD .un) else ρ[i]?
  | [], i => by simp [restR]
  | v :: vs, i => by
    have ih := restR_get ρ0 ρ vs i
    show ((restR ρ0 ρ vs).set v ((ρ0[v]?).getD .un))[i]? = _
    by_cases q : v = i
    · subst q
      by_cases l : v < ρ.length
      · rw [List.getElem?_set_self (by rw [restR_len]; exact l), if_pos ⟨List.mem_cons_self, l⟩]
      · rw [List.getElem?_eq_none (by rw [List.length_set, restR_len]; omega), if_neg (fun z => l z.2), List.getElem?_eq_none (by omega)]
    · rw [List.getElem?_set_ne q, ih]
      by_cases m : i ∈ vs
      · by_cases l : i < ρ.length
        · rw [if_pos ⟨m, l⟩, if_pos ⟨List.mem_cons_of_mem _ m, l⟩]
        · rw [if_neg (fun z => l z.2), if_neg (fun z => l z.2)]
      · rw [if_neg (fun z => m z.1), if_neg (fun z => (List.mem_cons.mp z.1).elim (fun w => q w.symm) m)]
/-- back from a block -/
theorem Rel.rest {vs : List Nat} {F0 H0 : Hp} {ρ0 : List Sl} (S0 : Rel K ct fr F0 H0 σ ρ0) (s : Same F0 F) (ok : okOwn ρ0 vs = true) (S : Rel K ct fr F H (L2.wipe σ vs) ρ) : Rel K ct fr F H σ (restR ρ0 ρ vs) := by
  have lr : ρ.length = ρ0.length := by rw [← S.len, wipe_length, S0.len]
  have out : ∀ {i : Nat}, i ∉ vs → (L2.wipe σ vs)[i]? = σ[i]? := fun {i} h => by rw [wipe_get, if_neg (fun z => h z.1)]
  have nc : ∀ {i : Nat} {k : CK} {c : CC}, (restR ρ0 ρ vs)[i]? = some (.cel k c) → i ∉ vs ∧ ρ[i]? = some (.cel k c) := fun {i k c} e => by
    rw [restR_get] at e
    split at e
    · rename_i h
      have h1 := List.all_eq_true.mp ok i h.1
      cases q : ρ0[i]? with
      | none =>
        rw [q] at e
        cases e
      | some x =>
        rw [q] at e h1
        have e : some x = some (Sl.cel k c) := e
        cases e
        cases h1
    · rename_i h
      refine ⟨fun m => h ⟨m, (List.getElem?_eq_some_iff.mp e).1⟩, e⟩
  refine ⟨by rw [restR_len, lr]; exact S0.len, S.fh, fun i s0 e => ?_, fun i j k c k' c' p e1 e2 h1 h2 => ?_, S.keep, S.fro, fun i p e => ?_⟩
  · rw [restR_get] at e
    split at e
    · rename_i h
      cases q : ρ0[i]? with
      | none =>
        rw [q] at e
        cases e
        have := List.getElem?_eq_none_iff.mp q
        omega
      | some x =>
        rw [q] at e
        have e : some x = some s0 := e
        cases e
        have h1 := List.all_eq_true.mp ok i h.1
        rw [q] at h1
        obtain ⟨o, g1, g2⟩ := S0.slot i _ q
        refine ⟨o, g1, ?_⟩
        cases s0 with
        | un => trivial
        | dat d => obtain ⟨v, a1, a2⟩ := g2; exact ⟨v, a1, a2.mono s⟩
        | cel k c => cases h1
        | exn c pl => cases h1
    · rename_i h
      have m : i ∉ vs := fun m => h ⟨m, (List.getElem?_eq_some_iff.mp e).1⟩
      obtain ⟨o, g1, g2⟩ := S.slot i s0 e
      rw [out m] at g1
      exact ⟨o, g1, g2⟩
  · obtain ⟨m1, f1⟩ := nc e1
    obtain ⟨m2, f2⟩ := nc e2
    rw [← out m1] at h1
    rw [← out m2] at h2
    exact S.dis i j _ _ _ _ p f1 f2 h1 h2
  · obtain ⟨k, c, h1, h2⟩ := S.pcs i p e
    refine ⟨k, c, ?_, h2⟩
    rw [restR_get, if_neg]
    · exact h1
    · intro z
      have := okOwn_np S0 ok i z.1
      rw [e] at this
      cases this
/-- the new list stands aside -/
def Fr.prot (fr : Fr) (D : Addr) (o : HO) : Fr := { fr with P := upd fr.P D o, F0 := fun b => if b = D then none else fr.F0 b }
theorem Rel.prot (S : Rel K ct fr F H σ ρ) {D : Addr} {o : HO} (h : H D = none) : Rel K ct (fr.prot D o) F (upd H D o) σ ρ := by
  have S1 := S.newC (o := o) h
  have fD := S.nn h
  have cD : ∀ {i : Nat} {k : CK} {c : CC} {p : Addr}, ρ[i]? = some (.cel k c) → σ[i]? = some (some (.ref p)) → p ≠ D := fun {i k c p} e1 e2 z => by
    obtain ⟨p', o', g1, g2⟩ := S.cell_at e1
    rw [g1] at e2
    cases e2
    rw [z, h] at g2
    cases g2
  refine ⟨S1.len, S1.fh, fun i s e => ?_, S1.dis, fun b u e => ?_, fun b hb h0 => ?_, S1.pcs⟩
  · obtain ⟨u, g1, g2⟩ := S1.slot i s e
    refine ⟨u, g1, ?_⟩
    cases s with
    | un => trivial
    | dat d => exact g2
    | cel k c =>
      obtain ⟨p, a1, a2, a3, a4, a5, a6⟩ := g2
      subst a1
      refine ⟨p, rfl, a2, ?_, a4, a5, a6⟩
      show upd fr.P D o p = none
      rw [upd_ne (cD e g1)]
      exact a3
    | exn c pl => exact g2
  · have e : upd fr.P D o b = some u := e
    by_cases q : b = D
    · subst q; rw [upd_same] at e; rw [upd_same]; exact e
    · rw [upd_ne q] at e; rw [upd_ne q]; exact S.keep b u e
  · by_cases q : b = D
    · subst q; exact fD
    · have h0 : (if b = D then none else fr.F0 b) = none := h0
      rw [if_neg q] at h0
      have hb : upd fr.P D o b ≠ none := hb
      rw [upd_ne q] at hb
      exact S.fro b hb h0
theorem Rel.protD {D : Addr} {o : HO} (S : Rel K ct (fr.prot D o) F H σ ρ) : F D = none ∧ H D = some o := by
  refine ⟨S.fro D ?_ ?_, S.keep D o ?_⟩
  · show upd fr.P D o D ≠ none
    rw [upd_same]; simp
  · show (if D = D then none else fr.F0 D) = none
    rw [if_pos rfl]
  · show upd fr.P D o D = some o
    rw [upd_same]
/-- the new list grows -/
theorem Rel.reprot {D : Addr} {o o' : HO} (S : Rel K ct (fr.prot D o) F H σ ρ) : Rel K ct (fr.prot D o') F (upd H D o') σ ρ := by
  obtain ⟨fD, hD⟩ := S.protD
  have ne : ∀ {b : Addr} {u : HO}, F b = some u → b ≠ D := fun {b u} e z => by rw [z, fD] at e; cases e
  refine ⟨S.len, fun b u e => by rw [upd_ne (ne e)]; exact S.fh b u e, fun i s e => ?_, S.dis, fun b u e => ?_, fun b hb h0 => ?_, S.pcs⟩
  · obtain ⟨u, g1, g2⟩ := S.slot i s e
    refine ⟨u, g1, ?_⟩
    cases s with
    | un => trivial
    | dat d => exact g2
    | cel k c =>
      obtain ⟨p, a1, a2, a3, a4, a5, a6⟩ := g2
      subst a1
      have pD : p ≠ D := fun z => by
        have a3 : upd fr.P D o p = none := a3
        rw [z, upd_same] at a3
        cases a3
      refine ⟨p, rfl, a2, ?_, a4, a5, a6.keep (Same.refl _) (by rw [upd_ne pD])⟩
      have a3 : upd fr.P D o p = none := a3
      show upd fr.P D o' p = none
      rw [upd_ne pD] at a3 ⊢
      exact a3
    | exn c pl => exact g2
  · have e : upd fr.P D o' b = some u := e
    by_cases q : b = D
    · subst q; rw [upd_same] at e; rw [upd_same]; exact e
    · rw [upd_ne q] at e; rw [upd_ne q]; exact S.keep b u (by show upd fr.P D o b = some u; rw [upd_ne q]; exact e)
  · refine S.fro b ?_ h0
    have hb : upd fr.P D o' b ≠ none := hb
    show upd fr.P D o b ≠ none
    by_cases q : b = D
    · subst q; rw [upd_same]; simp
    · rw [upd_ne q] at hb ⊢; exact hb
/-- the new list is done -/
theorem Rel.unprot {D : Addr} {o : HO} {c : CC} (hP : fr.P D = none) (hp : ∀ j, fr.pa j ≠ some D) (S : Rel K ct (fr.prot D o) F H σ ρ) (r : CelR K ct.ad F H D c) : Rel K ct fr F H σ ρ ∧ Fresh K ct.ad fr F H σ ρ D c := by
  obtain ⟨fD, hD⟩ := S.protD
  have nP : ∀ {p : Addr}, (fr.prot D o).P p = none → p ≠ D ∧ fr.P p = none := fun {p} z => by
    have z : upd fr.P D o p = none := z
    by_cases q : p = D
    · subst q; rw [upd_same] at z; cases z
    · rw [upd_ne q] at z; exact ⟨q, z⟩
  refine ⟨⟨S.len, S.fh, fun i s e => ?_, S.dis, fun b u e => S.keep b u ?_, fun b hb h0 => ?_, S.pcs⟩, fD, hP, hp, r, fun i k c' e1 e2 => ?_⟩
  · obtain ⟨u, g1, g2⟩ := S.slot i s e
    refine ⟨u, g1, ?_⟩
    cases s with
    | un => trivial
    | dat d => exact g2
    | cel k c => obtain ⟨p, a1, a2, a3, a4, a5, a6⟩ := g2; exact ⟨p, a1, a2, (nP a3).2, a4, a5, a6⟩
    | exn c pl => exact g2
  · show upd fr.P D o b = some u
    rw [upd_ne (fun z => by rw [z, hP] at e; cases e)]; exact e
  · have q : b ≠ D := fun z => hb (by rw [z]; exact hP)
    refine S.fro b ?_ ?_
    · show upd fr.P D o b ≠ none
      rw [upd_ne q]; exact hb
    · show (if b = D then none else fr.F0 b) = none
      rw [if_neg q]; exact h0
  · obtain ⟨u, g1, p, a1, a2, a3, a4, a5, a6⟩ := S.slot i _ e1
    rw [g1] at e2
    subst a1
    cases e2
    exact (nP a3).1 rfl
theorem noErI {α : Type} {m : M α} {r : Ex α} {ρ1 : List Sl} (h : noEr m ρ = some (r, ρ1)) : ∃ a, r = .ok a ∧ m ρ = some (.ok a, ρ1) := by
  unfold noEr at h
  split at h
  · rename_i a ρ' e; cases h; exact ⟨a, rfl, e⟩
  · cases h
theorem bndI {α β : Type} {m : M α} {k : α → M β} {r : Ex β × List Sl} (h : bnd (noEr m) k ρ = some r) : ∃ a ρ1, m ρ = some (.ok a, ρ1) ∧ k a ρ1 = some r := by
  unfold bnd at h
  cases e : noEr m ρ with
  | none =>
    rw [e] at h
    cases h
  | some x =>
    obtain ⟨r1, ρ1⟩ := x
    obtain ⟨a, rfl, e2⟩ := noErI e
    rw [e] at h
    exact ⟨a, ρ1, e2, h⟩
theorem datI {β : Type} {m : Ev} {k : D → M β} {r : Ex β × List Sl} (h : bnd (dat (noEr m)) k ρ = some r) : (∃ d ρ1, m ρ = some (.ok (.d d), ρ1) ∧ k d ρ1 = some r) ∨ ∃ c d ρ1, m ρ = some (.ok (.c c), ρ1) ∧ c.froz = some d ∧ k d ρ1 = some r := by
  have e : bnd (dat (noEr m)) k = bnd (noEr m) fun r => bnd (match r with | Rv.d d => pur d | Rv.c c => PL.opt c.froz) k := by
    funext ρ
    unfold PL.dat PL.bnd
    cases em : noEr m ρ with
    | none => rfl
    | some x =>
      obtain ⟨r1, ρ1⟩ := x
      cases r1 with
      | ok a => cases a <;> rfl
      | er c pl => rfl
  rw [e] at h
  obtain ⟨a, ρ1, h1, h2⟩ := bndI h
  cases a with
  | d d => exact .inl ⟨d, ρ1, h1, h2⟩
  | c c =>
    cases ef : c.froz with
    | none => rw [show bnd (match Rv.c c with | Rv.d d => pur d | Rv.c c => PL.opt c.froz) k ρ1 = bnd (PL.opt c.froz) k ρ1 from rfl, ef] at h2; cases h2
    | some d =>
      rw [show bnd (match Rv.c c with | Rv.d d => pur d | Rv.c c => PL.opt c.froz) k ρ1 = bnd (PL.opt c.froz) k ρ1 from rfl, ef] at h2
      exact .inr ⟨c, d, ρ1, h1, ef, h2⟩
abbrev WF : WX := fun _ _ _ _ => False
theorem wipe_wipe (σ : L2.St) (vs : List Nat) : L2.wipe (L2.wipe σ vs) vs = L2.wipe σ vs := by
  refine List.ext_getElem? fun i => ?_
  rw [wipe_get, wipe_get, wipe_length]
  by_cases h : i ∈ vs ∧ i < σ.length
  · rw [if_pos h, if_pos h]
  · rw [if_neg h, if_neg h]
theorem w_lc {vs : List Nat} {it : M (List D)} {tg : Tg} {c : M Bool} {e : Ev} {Q : VK} (hv : ∀ i ∈ tg.sl, i ∈ vs) (h : TP K ct W (evLc vs it tg c e) σ H Q) : tLc (TIt K ct W it) (TGt K ct tg) (TB K ct WF c) (TP K ct WF e) vs σ H Q := by
  obtain ⟨fr, F, ρ, S, h⟩ := h
  refine Tat.bnd h S fun F1 H1 ρ1 J xs s1 S1 r1 h => ?_
  intro D hD
  obtain ⟨r0, ρ0, e0, q0⟩ := h
  unfold lcRun at e0
  split at e0
  · rename_i ok
    have np := okOwn_np S1 ok
    cases ego : lcGo vs tg c e xs [] (wipeR ρ1 vs) with
    | none => rw [ego] at e0; cases e0
    | some y =>
      obtain ⟨ry, ρf⟩ := y
      rw [ego] at e0
      cases ry with
      | er c pl => cases e0
      | ok accf =>
        cases e0
        have dP := S1.np hD
        have dp : ∀ j, fr.pa j ≠ some D := fun j => (S1.fresh (o := .lst []) (c := .lst []) hD ⟨[], upd_same, .nil⟩).2.2.1 j
        refine ⟨fun i m H => m = xs.length - i ∧ i ≤ xs.length ∧ ∃ F2 ρ2 vacc acc, Same F1 F2 ∧ Rps K ct.ad F2 vacc acc ∧ Rel K ct (fr.prot D (.lst vacc)) F2 H (L2.wipe σ vs) ρ2 ∧ lcGo vs tg c e (xs.drop i) acc ρ2 = some (.ok accf, ρf),
          ⟨xs.length, by simp, Nat.zero_le _, F1, _, [], [], Same.refl _, .nil, (S1.wipe np).prot hD, ego⟩, ?_⟩
        rintro i m H2 ⟨rfl, hi, F2, ρ2, vacc, acc, s2, ra, S2, eg⟩
        have it := r1 F2 H2 s2 S2.fh i
        by_cases lt : i < xs.length
        · refine .inr ?_
          obtain ⟨go, yl⟩ := it.1 xs[i] (List.getElem?_eq_getElem lt)
          refine ⟨go, fun H' => ∃ F2 ρ2 vacc acc, Same F1 F2 ∧ Rps K ct.ad F2 vacc acc ∧ Rel K ct (fr.prot D (.lst vacc)) F2 H' (L2.wipe σ vs) ρ2 ∧ lcGo vs tg c e (xs.drop (i + 1)) acc ρ2 = some (.ok accf, ρf), fun H' z => ⟨xs.length - (i + 1), by omega, rfl, lt, z⟩, fun v H3 y => ?_⟩
          obtain ⟨F3, al, rp⟩ := yl v H3 y
          have S3 := S2.al al
          rw [List.drop_eq_getElem_cons lt] at eg
          unfold lcGo at eg
          cases ea : asgT tg xs[i] ρ2 with
          | none => rw [ea] at eg; cases eg
          | some x =>
            obtain ⟨rx, ρ4⟩ := x
            rw [ea] at eg
            cases rx with
            | er c pl => cases eg
            | ok fl =>
              cases fl with
              | nx =>
                refine ⟨fr.prot D (.lst vacc), F3, ρ2, xs[i], ρ4, S3, rp, ea, fun σ4 F4 H4 s4 o4 S4 => ⟨?_, ?_⟩⟩
                · rw [(o4.sub hv).wipe, wipe_wipe]
                · have wk : L2.wipe σ4 vs = L2.wipe σ vs := by rw [(o4.sub hv).wipe, wipe_wipe]
                  have back : ∀ {F5 H5 ρ5 vacc' acc'}, Same F4 F5 → Rps K ct.ad F5 vacc' acc' → Rel K ct (fr.prot D (.lst vacc')) F5 H5 σ4 ρ5 → lcGo vs tg c e (xs.drop (i + 1)) acc' (wipeR ρ5 vs) = some (.ok accf, ρf) →
                      ∃ F2 ρ2 vacc acc, Same F1 F2 ∧ Rps K ct.ad F2 vacc acc ∧ Rel K ct (fr.prot D (.lst vacc)) F2 H5 (L2.wipe σ vs) ρ2 ∧ lcGo vs tg c e (xs.drop (i + 1)) acc ρ2 = some (.ok accf, ρf) := fun {F5 H5 ρ5 vacc' acc'} s5 ra5 S5 e5 =>
                    ⟨F5, _, vacc', acc', ((s2.trans al.1).trans s4).trans s5, ra5, by rw [← wk]; exact S5.wipe np, e5⟩
                  have eg : bnd (noEr c) (fun b => if b then bnd (dat (noEr e)) (fun d => if acc.length < 16777216 then (fun ρ => lcGo vs tg c e (xs.drop (i + 1)) (acc ++ [d]) (wipeR ρ vs)) else fai) else fun ρ => lcGo vs tg c e (xs.drop (i + 1)) acc (wipeR ρ vs)) ρ4 = some (.ok accf, ρf) := eg
                  obtain ⟨b, ρ5, ec, eg⟩ := bndI eg
                  refine ⟨fr.prot D (.lst vacc), F4, ρ4, S4, .ok b, ρ5, ec, fun v F5 H5 s5 S5 rb => ?_⟩
                  have rb : v = b := rb
                  subst rb
                  cases v with
                  | false =>
                    show if false = true then _ else _
                    (rw [if_neg Bool.false_ne_true])
                    exact back s5 (ra.mono (((al.1).trans s4).trans s5)) S5 eg
                  | true =>
                    show if true = true then _ else _
                    rw [if_pos rfl]
                    have fin : ∀ {d ρ6}, (if acc.length < 16777216 then (fun ρ => lcGo vs tg c e (xs.drop (i + 1)) (acc ++ [d]) (wipeR ρ vs)) else fai) ρ6 = some (Ex.ok accf, ρf) → acc.length < 16777216 ∧ lcGo vs tg c e (xs.drop (i + 1)) (acc ++ [d]) (wipeR ρ6 vs) = some (.ok accf, ρf) := fun {d ρ6} z => by
                      split at z
                      · rename_i w; exact ⟨w, z⟩
                      · cases z
                    rcases datI eg with ⟨d, ρ6, ee, eg⟩ | ⟨cc, d, ρ6, ee, ef, eg⟩
                    · obtain ⟨al6, eg⟩ := fin eg
                      refine ⟨fr.prot D (.lst vacc), F5, ρ5, S5, _, ρ6, ee, fun v F6 H6 s6 S6 rv => ?_⟩
                      have rv : Rp K ct.ad F6 v d := rv
                      exact ⟨vacc, S6.protD.2, by rw [ra.len]; exact al6, back (s5.trans s6) ((ra.mono (((al.1.trans s4).trans s5).trans s6)).snoc rv) S6.reprot eg⟩
                    · obtain ⟨al6, eg⟩ := fin eg
                      refine ⟨fr.prot D (.lst vacc), F5, ρ5, S5, _, ρ6, ee, fun v F6 H6 s6 S6 rv => ?_⟩
                      obtain ⟨p, ev, fp⟩ := rv
                      subst ev
                      obtain ⟨F7, s7, rp7, S7⟩ := fp.frz S6 ef
                      exact ⟨vacc, S7.protD.2, by rw [ra.len]; exact al6, back ((s5.trans s6).trans s7) ((ra.mono ((((al.1.trans s4).trans s5).trans s6).trans s7)).snoc rp7) S7.reprot eg⟩
              | _ => cases eg
        · refine .inl ⟨it.2 (by omega), ?_⟩
          rw [List.drop_eq_nil_of_le (by omega)] at eg
          have eg : pur acc ρ2 = some (.ok accf, ρf) := eg
          cases eg
          obtain ⟨S5, fr5⟩ := S2.unprot dP dp (c := .lst accf) ⟨vacc, S2.protD.2, ra⟩
          have S6 := S1.rest s2 ok S5
          refine q0 _ F2 H2 s2 S6 ⟨D, rfl, fr5.1, fr5.2.1, fr5.2.2.1, fr5.2.2.2.1, fun j k c' z1 z2 => ?_⟩
          obtain ⟨p', o', g1, g2⟩ := S6.cell_at z1
          rw [g1] at z2
          cases z2
          rw [restR_get] at z1
          split at z1
          · rename_i w
            have h1 := List.all_eq_true.mp ok j w.1
            cases q : ρ1[j]? with
            | none => rw [q] at z1; cases z1
            | some x =>
              rw [q] at z1 h1
              have z1 : some x = some (Sl.cel k c') := z1
              cases z1
              cases h1
          · rename_i w
            have m : j ∉ vs := fun m => w ⟨m, (List.getElem?_eq_some_iff.mp z1).1⟩
            refine fr5.2.2.2.2 j k c' z1 ?_
            rw [wipe_get, if_neg (fun z => m z.1)]
            exact g1
  · cases e0
end PL
end
section
namespace PL
open PySem PySem.Spec PyProof.Rows L2
variable {K : PySem.W.Frag} {ad : Cl → Addr} {ct : CT}
variable {fr : Fr} {F F' H H' : Hp} {σ : L2.St} {ρ : List Sl} {W : WX}
section
variable {X : Cx}
theorem pts_n : PTs X [] (TB K ct W (pur true)) := pts_nil.imp fun σ H Q h => by
  obtain ⟨fr, F, ρ, S, h⟩ := h
  exact Tat.ok (a := true) h true F H (Same.refl _) S rfl
theorem pp_lc {elt tg iter : Expr} {ifs : List Expr} {scope : Scope} {own : List (Str × Nat)} {pos : Pos} {it : M (List D)} {t : Tg} {c : M Bool} {e : Ev} (hc : X.calm = true) (hN : X.N.Nodup) (hi : PI X tg iter (TIt K ct W it)) (ok : BlkOk X.N X.env.scope scope own)
    (hg : ∀ (s : Shared) (H : Hp) (C : Addr) (cl : List (Str × Addr)) (fp : List Addr), PG (X.blk s H scope (compEnvC scope cl C X.env) fp) tg (TGt K ct t)) (ht : ∀ (s : Shared) (H : Hp) (C : Addr) (cl : List (Str × Addr)) (fp : List Addr), PTs (X.blk s H scope (compEnvC scope cl C X.env) fp) ifs (TB K ct WF c))
    (he : ∀ (s : Shared) (H : Hp) (C : Addr) (cl : List (Str × Addr)) (fp : List Addr), PE (X.blk s H scope (compEnvC scope cl C X.env) fp) elt (TP K ct WF e)) (hv : ∀ i ∈ t.sl, i ∈ own.map (·.2) := by decide) (hs : ∀ x, foldedSetIterable iter X.env x = pure x := by intro _; rfl) :
    PE X (.ListComp elt [⟨tg, iter, ifs, 0⟩] scope pos) (TP K ct W (evLc (own.map (·.2)) it t c e)) := (pe_lc hc hN hi ok hg ht he hs).imp fun σ H Q => w_lc hv
end
/-! ### new objects -/
theorem Rel.push (S : Rel K ct fr F H σ ρ) {p : Addr} {c : CC} (f : Fresh K ct.ad fr F H σ ρ p c) : Rel K ct fr F H (σ ++ [some (.ref p)]) (ρ ++ [.cel .own c]) := by
  obtain ⟨f1, f2, f3, f4, f5⟩ := f
  have l := S.len
  have old : ∀ {i : Nat} {s : Sl}, (ρ ++ [Sl.cel .own c])[i]? = some s → (i < ρ.length ∧ ρ[i]? = some s) ∨ (i = ρ.length ∧ s = .cel .own c) := fun {i s} e => by
    by_cases q : i < ρ.length
    · rw [List.getElem?_append_left q] at e; exact .inl ⟨q, e⟩
    · rw [List.getElem?_append_right (by omega)] at e
      have : i - ρ.length = 0 := by
        cases w : i - ρ.length with
        | zero => rfl
        | succ n => rw [w] at e; simp at e
      rw [this] at e
      cases e
      exact .inr ⟨by omega, rfl⟩
  have get : ∀ {i : Nat}, i < ρ.length → (σ ++ [some (V.ref p)])[i]? = σ[i]? := fun {i} q => List.getElem?_append_left (by omega)
  have last : (σ ++ [some (V.ref p)])[ρ.length]? = some (some (V.ref p)) := by rw [← l]; simp
  refine ⟨by simp [l], S.fh, fun i s e => ?_, fun i j k c1 k' c2 q e1 e2 h1 h2 => ?_, S.keep, S.fro, fun i q e => ?_⟩
  · rcases old e with ⟨q, e⟩ | ⟨rfl, rfl⟩
    · obtain ⟨o, g1, g2⟩ := S.slot i s e
      exact ⟨o, by rw [get q]; exact g1, g2⟩
    · exact ⟨_, last, p, rfl, f1, f2, (fun z => by cases z), (fun _ => f3), f4⟩
  · rcases old e1 with ⟨q1, e1⟩ | ⟨rfl, z1⟩
    · rw [get q1] at h1
      rcases old e2 with ⟨q2, e2⟩ | ⟨rfl, z2⟩
      · rw [get q2] at h2
        exact S.dis i j _ _ _ _ q e1 e2 h1 h2
      · rw [last] at h2
        cases h2
        exact absurd h1 (f5 _ _ _ e1)
    · rw [last] at h1
      cases h1
      rcases old e2 with ⟨q2, e2⟩ | ⟨rfl, z2⟩
      · rw [get q2] at h2
        exact absurd h2 (f5 _ _ _ e2)
      · rfl
  · obtain ⟨k, c1, h1, h2⟩ := S.pcs i q e
    exact ⟨k, c1, by rw [List.getElem?_append_left (List.getElem?_eq_some_iff.mp h1).1]; exact h1, h2⟩
theorem Rel.pop {o : Option V} (S : Rel K ct fr F H (σ ++ [o]) ρ) (np : fr.pa σ.length = none) : Rel K ct fr F H σ (ρ.take σ.length) := by
  have l := S.len
  rw [List.length_append] at l
  have l : σ.length + 1 = ρ.length := l
  have get : ∀ {i : Nat} {s : Sl}, (ρ.take σ.length)[i]? = some s → i < σ.length ∧ ρ[i]? = some s := fun {i s} e => by
    rw [List.getElem?_take] at e
    split at e
    · rename_i q; exact ⟨q, e⟩
    · cases e
  have gs : ∀ {i : Nat}, i < σ.length → (σ ++ [o])[i]? = σ[i]? := fun {i} q => List.getElem?_append_left q
  refine ⟨by rw [List.length_take]; omega, S.fh, fun i s e => ?_, fun i j k c1 k' c2 q e1 e2 h1 h2 => ?_, S.keep, S.fro, fun i q e => ?_⟩
  · obtain ⟨q, e⟩ := get e
    obtain ⟨u, g1, g2⟩ := S.slot i s e
    exact ⟨u, by rw [← gs q]; exact g1, g2⟩
  · obtain ⟨q1, e1⟩ := get e1
    obtain ⟨q2, e2⟩ := get e2
    exact S.dis i j _ _ _ _ q e1 e2 (by rw [gs q1]; exact h1) (by rw [gs q2]; exact h2)
  · obtain ⟨k, c1, h1, h2⟩ := S.pcs i q e
    have il := (List.getElem?_eq_some_iff.mp h1).1
    have : i ≠ σ.length := fun z => by rw [z, np] at e; cases e
    exact ⟨k, c1, by rw [List.getElem?_take, if_pos (by omega)]; exact h1, h2⟩
theorem Rel.popC {p : Addr} {c : CC} (S : Rel K ct fr F H (σ ++ [some (.ref p)]) ρ) (np : fr.pa σ.length = none) (e : ρ[σ.length]? = some (.cel .own c)) : Fresh K ct.ad fr F H σ (ρ.take σ.length) p c := by
  have last : (σ ++ [some (V.ref p)])[σ.length]? = some (some (V.ref p)) := by simp
  obtain ⟨u, g1, p', a1, a2, a3, a4, a5, a6⟩ := S.slot _ _ e
  rw [last] at g1
  subst a1
  cases g1
  refine ⟨a2, a3, a5 rfl, a6, fun i k c' e1 e2 => ?_⟩
  rw [List.getElem?_take] at e1
  split at e1
  · rename_i q
    have := S.dis i σ.length _ _ _ _ p e1 e (by rw [List.getElem?_append_left q]; exact e2) last
    omega
  · cases e1
/-- C(..): a new object, then its __init__ -/
def mkG (n : Nat) (G : Fn) (c : Cl) (ar : List Ar) : Ev := fun ρ => match callG n G (.c ρ.length :: ar) (ρ ++ [.cel .own (.obj c [])]) with
  | some (.ok (.d .non), ρ1) => (match ρ1[ρ.length]? with | some (.cel .own c') => some (.ok (.c c'), ρ1.take ρ.length) | _ => none)
  | some (.er c pl, ρ1) => some (.er c pl, ρ1.take ρ.length)
  | _ => none
def evMk (n : Nat) (G : Fn) (c : Cl) (as : List AE) (ds : List D := []) : Ev := bnd (evAs as) fun ar => mkG n G c (ar ++ ds.map .d)
def evMk0 (n : Nat) (G : Fn) (c : Cl) (as : List AE) (ds : List D := []) : Ev := bnd (evAs as) fun ar => noEr (mkG n G c (ar ++ ds.map .d))
theorem RAs.push {F : Hp} {σ : L2.St} {o : Option V} : ∀ {vs : List V} {as : List Ar}, RAs K ct.ad F σ vs as → RAs K ct.ad F (σ ++ [o]) vs as
  | _, _, .nil => .nil
  | _, .d _ :: _, .cons h r => .cons h (RAs.push r)
  | _, .c j :: _, .cons h r => .cons (by
      have h : σ[j]? = some (some _) := h
      show (σ ++ [o])[j]? = _
      rw [List.getElem?_append_left (List.getElem?_eq_some_iff.mp h).1]
      exact h) (RAs.push r)
theorem Tat.mk {n : Nat} {G : Fn} {c : Cl} {vs : List V} {ar : List Ar} {Q : VK} {E : XK} (h : Tat K ct (RV K ct.ad) W fr F ρ (mkG n G c ar) σ Q) (S : Rel K ct fr F H σ ρ) (r : RAs K ct.ad F σ vs ar) (hE : ∀ cls d H', W cls d σ H' → E cls d H')
    (x dx : Addr) (hx : H x = none) (hdx : H dx = none) (ne : dx ≠ x) : spP K ct.ad n G (.ref x :: vs) (upd (upd H dx (.own x)) x (.ins (ct.ad c) dx [])) (fun v H2 => v = .non ∧ Q (.ref x) H2) E := by
  have S1 := S.newC (o := .own x) hdx
  have hx1 : upd H dx (.own x) x = none := by rw [upd_ne ne.symm]; exact hx
  have S2 := S1.newC (o := .ins (ct.ad c) dx []) hx1
  have f2 := S1.fresh (o := .ins (ct.ad c) dx []) (c := .obj c []) hx1 ⟨dx, [], upd_same, .nil⟩
  have S3 := S2.push f2
  have l := S.len
  have np : fr.pa σ.length = none := by
    cases z : fr.pa σ.length with
    | none => rfl
    | some q =>
      obtain ⟨k1, c1, h1, h2⟩ := S.pcs _ q z
      have := (List.getElem?_eq_some_iff.mp h1).1
      omega
  have last : (σ ++ [some (V.ref x)])[ρ.length]? = some (some (V.ref x)) := by rw [← l]; simp
  refine Tat.call (W := fun cls d _ H' => W cls d σ H') (ar := .c ρ.length :: ar) (fr := fr) (F := F) (ρ := ρ ++ [.cel .own (.obj c [])]) (σ := σ ++ [some (.ref x)]) ?_ S3 (RAs.cons (show RA1 K ct.ad F (σ ++ [some (V.ref x)]) (.ref x) (.c ρ.length) from last) (RAs.push (o := some (V.ref x)) r)) hE
  obtain ⟨r0, ρ0, e, q⟩ := h
  unfold mkG at e
  cases ec : callG n G (.c ρ.length :: ar) (ρ ++ [.cel .own (.obj c [])]) with
  | none => rw [ec] at e; cases e
  | some y =>
    obtain ⟨ry, ρ1⟩ := y
    rw [ec] at e
    refine ⟨ry, ρ1, ec, ?_⟩
    cases ry with
    | er c' pl =>
      cases e
      intro d F' H' s' S' pr
      rw [← l] at q
      exact q d F' H' s' (S'.pop np) pr
    | ok rv =>
      cases rv with
      | c c' => cases e
      | d d =>
        cases d with
        | non =>
          intro v F' H' s' S' rr
          have rr : Rp K ct.ad F' v .non := rr
          cases rr
          refine ⟨rfl, ?_⟩
          have e : (match ρ1[ρ.length]? with | some (.cel .own c') => some (Ex.ok (Rv.c c'), ρ1.take ρ.length) | _ => none) = some (r0, ρ0) := e
          split at e
          · rename_i c' e1
            cases e
            rw [← l] at q e1
            exact q _ F' H' s' (S'.pop np) ⟨x, rfl, S'.popC np e1⟩
          · cases e
        | _ => cases e
section
variable {X : Cx} {CX : CXT} {k : Nat} {f : Addr} {fd : FuncData} {ps : List Str} {x : Str} {p pos : Pos} {e : Expr} {es : List Expr} {n : Nat} {G : Fn} {as : List AE} {dvs : List V} {dds : List D} {ds : List Value}
theorem pp_make (c : Cl) (M : Mk X.K (ct.ad c) f) (Fn : FnOk X.prog X.w X.K X.mg X.base CX k f fd ps (spP K ct.ad n G)) (hr : Room (k + 1) X.A) (hg : Gl X x) (hm : X.mg x = some (.ref (ct.ad c))) (hb : Binds X.K fd ps ds) (hd : Vals dvs ds) (hx : Passes CX X E0)
    (ha : PA X (e :: es) (TAr K ct W (evAs as))) (hdf : Dfs dvs dds) (hdb : (x == ("__debug__" : Str)) = false := by decide) (he : starEach (e :: es) X.env = (false, eval e X.env) :: starEach es X.env := by rfl) (hpl : (backTo pos (starEach es X.env)).any (·.1) = false := by rfl) :
    PE X (.Call (.Name x p) (e :: es) [] pos) (TP K ct W (evMk0 n G c as dds)) := (pe_make M Fn hr hg hm hb hd hx ha hdb he hpl).imp fun σ H Q h => by
  obtain ⟨fr, F, ρ, S, h⟩ := h
  refine Tat.bnd h S fun F1 H1 ρ1 vs ar s1 S1 r1 h => ?_
  intro x dx h1 h2 h3
  exact Tat.mk (W := WF) h.noEr S1 (RAs.dfs hdf r1) (fun _ _ _ z => z) x dx h1 h2 h3
theorem pp_makeS (c : Cl) (M : Mk X.K (ct.ad c) f) (Fn : FnOk X.prog X.w X.K X.mg X.base (L2.CX X.prog X.w) k f fd ps (spP K ct.ad n G)) (tk : Takes X W) (hr : Room (k + 1) X.A) (hg : Gl X x) (hm : X.mg x = some (.ref (ct.ad c))) (hb : Binds X.K fd ps ds) (hd : Vals dvs ds)
    (ha : PA X (e :: es) (TAr K ct W (evAs as))) (hdf : Dfs dvs dds) (hdb : (x == ("__debug__" : Str)) = false := by decide) (he : starEach (e :: es) X.env = (false, eval e X.env) :: starEach es X.env := by rfl) (hpl : (backTo pos (starEach es X.env)).any (·.1) = false := by rfl) :
    PE X (.Call (.Name x p) (e :: es) [] pos) (TP K ct W (evMk n G c as dds)) := (OW.pe_makeS M Fn hr hg hm hb hd (fun σ => passAt tk σ) ha hdb he hpl).imp fun σ H Q h => by
  obtain ⟨fr, F, ρ, S, h⟩ := h
  refine Tat.bnd h S fun F1 H1 ρ1 vs ar s1 S1 r1 h => ?_
  intro x dx h1 h2 h3
  exact Tat.mk h S1 (RAs.dfs hdf r1) (fun _ _ _ z => z) x dx h1 h2 h3
end
/-! ### lists that change -/
def modL (j : Nat) (f : List D → Option (D × List D)) : Ev := fun ρ => match ρ[j]? with
  | some (.cel k (.lst xs)) => (match f xs with | some (r, ys) => some (.ok (.d r), ρ.set j (.cel k (.lst ys))) | none => none)
  | _ => none
def isL (j : Nat) : Ev := fun ρ => match ρ[j]? with | some (.cel _ (.lst _)) => some (.ok (.d .non), ρ) | _ => none
/-- o.m(..) of a list in slot j -/
def evBmL (j : Nat) (f : List D → List D → Option (D × List D)) (es : List DE) : Ev := bnd (isL j) fun _ => bnd (evDs es) fun ds => modL j fun xs => f xs ds
theorem Tat.isL {δ γ : Type} {R' : Rel3 δ γ} {j : Nat} {k : Rv → M γ} {Q : δ → Hp → Prop} (h : Tat K ct R' W fr F ρ (PL.bnd (PL.isL j) k) σ Q) (S : Rel K ct fr F H σ ρ) :
    ∃ p vs, σ[j]? = some (some (.ref p)) ∧ H p = some (.lst vs) ∧ Tat K ct R' W fr F ρ (k (.d .non)) σ Q := by
  obtain ⟨r, ρ', e, q⟩ := h
  unfold PL.bnd PL.isL at e
  split at e
  · rename_i a ρ1 e1
    split at e1
    · rename_i k0 xs e2
      cases e1
      obtain ⟨o, g1, p, a1, a2, a3, a4, a5, vs, a6, a7⟩ := S.slot j _ e2
      subst a1
      exact ⟨p, vs, g1, a6, r, ρ', e, q⟩
    · cases e1
  · rename_i c pl ρ1 e1
    split at e1 <;> cases e1
  · cases e
variable (K ad) in
/-- what a list's method does -/
def OL (r : V → List V → Hp → VK → Prop) (f : List D → List D → Option (D × List D)) : Prop := ∀ {F H : Hp} {p : Addr} {vs us : List V} {xs ds ys : List D} {z : D} {Q : VK}, Same F H → H p = some (.lst vs) → Rps K ad F vs xs → Rps K ad F us ds → f xs ds = some (z, ys) →
  (∀ v vs', Rp K ad F v z → Rps K ad F vs' ys → Q v (upd H p (.lst vs'))) → r (.ref p) us H Q
theorem w_bmL {j : Nat} {r : V → List V → Hp → VK → Prop} {f : List D → List D → Option (D × List D)} {es : List DE} {Q : VK} (O : OL K ct.ad r f) (h : TP K ct W (evBmL j f es) σ H Q) : tBM K "list" r (tVar j) (TD K ct W (evDs es)) σ H Q := by
  obtain ⟨fr, F, ρ, S, h⟩ := h
  obtain ⟨p, vs, h1, h2, h⟩ := Tat.isL h S
  refine ⟨_, h1, .inl ⟨rfl, vs, SqL.of h2⟩, ?_⟩
  refine Tat.bnd h S fun F1 H1 ρ1 us ds s1 S1 r1 h => ?_
  obtain ⟨r0, ρ', e, q⟩ := h
  unfold modL at e
  split at e
  · rename_i k xs e2
    obtain ⟨o, g1, p', a1, a2, a3, a4, a5, vs', a6, a7⟩ := S1.slot j _ e2
    rw [h1] at g1
    subst a1
    cases g1
    split at e
    · rename_i z ys ef
      cases e
      exact O S1.fh a6 a7 r1 ef fun v vs2 rv rvs => q v F1 _ (Same.refl _) (S1.updC e2 h1 rfl ⟨vs2, upd_same, rvs⟩) rv
    · cases e
  · cases e
def fApp : List D → List D → Option (D × List D) | xs, [d] => if xs.length < 16777216 then some (.non, xs ++ [d]) else none | _, _ => none
def fIns : List D → List D → Option (D × List D) | xs, [.int i, d] => if xs.length < 16777216 ∧ 0 ≤ i ∧ i < 2 ^ 63 then some (.non, xs.take i.toNat ++ [d] ++ xs.drop i.toNat) else none | _, _ => none
def fExt : List D → List D → Option (D × List D) | xs, [.lst ys] => if xs.length + ys.length ≤ 16777216 then some (.non, xs ++ ys) else none | _, _ => none
def fPopAt : List D → List D → Option (D × List D) | xs, [.int i] => if -(2 ^ 63) ≤ i ∧ i < 2 ^ 63 then (seqIndex? i xs.length).bind fun k => (xs[k]?).map fun d => (d, xs.eraseIdx k) else none | _, _ => none
theorem ol_app : OL K ct.ad rAppend fApp := by
  intro F H p vs us xs ds ys z Q s h1 h2 h3 e q
  cases h3 with
  | nil => cases e
  | @cons u d us ds r rs =>
    cases rs with
    | cons _ _ => cases e
    | nil =>
      have e : (if xs.length < 16777216 then some (D.non, xs ++ [d]) else none) = some (z, ys) := e
      split at e
      · rename_i l
        cases e
        exact ⟨p, vs, u, rfl, rfl, h1, by rw [h2.len]; exact l, q _ _ .non (h2.snoc r)⟩
      · cases e
section
variable {X : Cx} {e : Expr} {es : List Expr} {r : List DE} {cpos apos p : Pos} {x : Str}
abbrev FewW (X : Cx) (q : Pos) (ws : List Expr) : Prop := ((backTo q (starEach ws X.env)).all (fun y => !y.1) && (backToKw q (keywordEach [] X.env)).all (fun y => y.1.isSome)
  && decide (ws.length + ([] : List Keyword).length + (if ([] : List Keyword).isEmpty then 0 else 1) < 30)) = true
theorem pp_bmL {id : String} {name : Str} {rr : V → List V → Hp → VK → Prop} {f : List D → List D → Option (D × List D)} (j : Nat) (eK : X.K = K) (O : OL K ct.ad rr f) (pa : PlainAttrs "list") (slot : Slot "list" name id) (hty : typeOf (.builtin id) = pure (.type "method_descriptor")) (hm : MtR X id rr) (ho : PE X (.Name x p) (tVar j)) (ha : PA X (e :: es) (TD K ct W (evDs r)))
    (hbase : attributeBase (.Name x p) name X.env (eval (.Name x p) X.env) = eval (.Name x p) X.env := by rfl)
    (hfew : FewW X cpos (e :: es) := by rfl) (hline : (apos.endLine == cpos.line) = true := by rfl)
    (hs : starEach (e :: es) X.env = (false, eval e X.env) :: starEach es X.env := by rfl) (hplain : (backTo cpos (starEach es X.env)).any (·.1) = false := by rfl) :
    PE X (.Call (.Attribute (.Name x p) name apos) (e :: es) [] cpos) (TP K ct W (evBmL j f r)) := by
  subst eK
  exact (pe_bm pa slot hty hm ho ha hbase hfew hline hs hplain).imp fun σ H Q => w_bmL O
end
/-- xs[i] = e, xs in slot j -/
def evSetI (j : Nat) (ie e : Ev) : M Fl := bnd (dat e) fun d => bnd (isL j) fun _ => bnd (dat ie) fun i => match i with
  | .int i => bnd (modL j fun xs => (ixN xs.length i).map fun n => (.non, xs.set n d)) fun _ => pur .nx
  | _ => fai
theorem Sat.isL {D : Ends} {j : Nat} {k : Rv → M Fl} (h : Sat K ct W D fr F ρ (PL.bnd (PL.isL j) k)) (S : Rel K ct fr F H σ ρ) :
    ∃ p vs, σ[j]? = some (some (.ref p)) ∧ H p = some (.lst vs) ∧ Sat K ct W D fr F ρ (k (.d .non)) := by
  obtain ⟨r, ρ', e, q⟩ := h
  unfold PL.bnd PL.isL at e
  split at e
  · rename_i a ρ1 e1
    split at e1
    · rename_i k0 xs e2
      cases e1
      obtain ⟨o, g1, p, a1, a2, a3, a4, a5, vs, a6, a7⟩ := S.slot j _ e2
      subst a1
      exact ⟨p, vs, g1, a6, r, ρ', e, q⟩
    · cases e1
  · rename_i c pl ρ1 e1
    split at e1 <;> cases e1
  · cases e
theorem w_setI {j : Nat} {ie e : Ev} {D : Ends} (h : TSt K ct W (evSetI j ie e) D σ H) : tAsg (TP K ct W e) (gSub (tVar j) (TP K ct W ie) rSetL) D σ H := by
  obtain ⟨fr, F, ρ, S, h⟩ := h
  refine h.dat S fun F1 H1 ρ1 v d s1 S1 r1 h => ?_
  obtain ⟨p, vs, h1, h2, h⟩ := Sat.isL h S1
  refine ⟨_, h1, ?_⟩
  refine h.dat S1 fun F2 H2 ρ2 u i s2 S2 r2 h => ?_
  cases i with
  | int i =>
    cases r2
    obtain ⟨r0, ρ', e, q⟩ := h
    have e : bnd (modL j fun xs => (ixN xs.length i).map fun n => (.non, xs.set n d)) (fun _ => pur Fl.nx) ρ2 = some (r0, ρ') := e
    unfold bnd modL at e
    cases e2 : ρ2[j]? with
    | none => rw [e2] at e; cases e
    | some x =>
      rw [e2] at e
      cases x with
      | cel k c =>
        cases c with
        | lst xs =>
          obtain ⟨o, g1, p', a1, a2, a3, a4, a5, vs', a6, a7⟩ := S2.slot j _ e2
          rw [h1] at g1
          subst a1
          cases g1
          dsimp only at e
          cases e3 : ixN xs.length i with
          | none => rw [e3] at e; cases e
          | some n =>
            rw [e3] at e
            cases e
            exact ⟨p, vs', i, n, rfl, rfl, a6, by rw [a7.len]; exact e3, q σ F2 _ (Same.refl _) (S2.updC e2 h1 rfl ⟨_, upd_same, a7.set (r1.mono s2) n⟩)⟩
        | _ => cases e
      | _ => cases e
  | _ => obtain ⟨_, _, e, _⟩ := h; cases e
theorem s_setI {X : Cx} {x : Str} {p pos pos' : Pos} {i e : Expr} {fi fe : Ev} (j : Nat) (ho : PE X (.Name x p) (tVar j)) (hi : PE X i (TP K ct W fi)) (he : PE X e (TP K ct W fe))
    (ha : ∀ z, assign (.Subscript (.Name x p) i pos) X.env z = (do
      let l ← holding [z] (eval (.Name x p) X.env); let n ← holding [z, l] (eval i X.env)
      standAt pos; holding [z, l, n] (setItem l n z); release [z, l, n] []) := by intro _; rfl)
    (hs : swapsWithSole [.Subscript (.Name x p) i pos] e pos'.line X.env = pure false := by rfl) (hw : swappedStores [.Subscript (.Name x p) i pos] e X.env = pure none := by rfl)
    (h1 : (assignEach [.Subscript (.Name x p) i pos] X.env).map (·.2) = [assign (.Subscript (.Name x p) i pos) X.env] := by rfl) : PS X (.Assign [.Subscript (.Name x p) i pos] e pos') (TSt K ct W (evSetI j fi fe)) := (ps_asg he (pg_sub ho hi set_list ha) hs hw h1).imp fun D σ H => w_setI
/-! ### fields of an object in the making -/
def putD (f : Str) (d : D) : List (Str × D) → List (Str × D)
  | [] => [(f, d)]
  | (g, x) :: r => if g = f then (g, d) :: r else (g, x) :: putD f d r
theorem put_zip {f : Str} {v : V} {d : D} (r : Rp K ct.ad F v d) : ∀ {kvs : List (Str × D)} {vs : List V}, Rps K ct.ad F vs (kvs.map (·.2)) → ∃ vs', putF f v ((kvs.map (·.1)).zip vs) = ((putD f d kvs).map (·.1)).zip vs' ∧ Rps K ct.ad F vs' ((putD f d kvs).map (·.2))
  | [], _, h => by cases h; exact ⟨[v], rfl, .cons r .nil⟩
  | (g, x) :: kvs, _, h => by
    cases h with
    | @cons u _ us _ hu hs =>
      obtain ⟨vs', e, rs⟩ := put_zip r hs
      by_cases q : g = f
      · refine ⟨v :: us, ?_, ?_⟩
        · simp [putD, putF, q]
        · simp only [putD, if_pos q, List.map_cons]; exact .cons r hs
      · refine ⟨u :: vs', ?_, ?_⟩
        · simp only [putD, putF, if_neg q, List.map_cons, List.zip_cons_cons]; rw [e]
        · simp only [putD, if_neg q, List.map_cons]; exact .cons hu rs
def evFldS (c : Cl) (j : Nat) (f : Str) (e : Ev) : M Fl := bnd (dat e) fun d => fun ρ => match ρ[j]? with
  | some (.cel k (.obj c' kvs)) => if c' = c ∧ kvs.length < 1000 then some (.ok .nx, ρ.set j (.cel k (.obj c' (putD f d kvs)))) else none
  | _ => none
theorem s_fld {X : Cx} {x f : Str} {p pos pos' : Pos} {e : Expr} {fe : Ev} (c : Cl) (j : Nat) (eK : X.K = K) (hc : Cls K (ct.ad c)) (hn : NoAttr K (ct.ad c) f) (ho : PE X (.Name x p) (tVar j)) (he : PE X e (TP K ct W fe))
    (hs : swapsWith e (some (.Attribute (.Name x p) f pos')) pos.line X.env = pure false := by rfl) : PS X (.Assign [.Attribute (.Name x p) f pos'] e pos) (TSt K ct W (evFldS c j f fe)) := by
  subst eK
  refine (ps_fld ho he hs).imp fun D σ H ⟨fr, F, ρ, S, h⟩ => ?_
  refine h.dat S fun F1 H1 ρ1 v d s1 S1 r1 h => ?_
  obtain ⟨r0, ρ', e, q⟩ := h
  have e9 : (match ρ1[j]? with | some (.cel k (.obj c' kvs)) => if c' = c ∧ kvs.length < 1000 then some (Ex.ok Fl.nx, ρ1.set j (.cel k (.obj c' (putD f d kvs)))) else none | _ => none) = some (r0, ρ') := e
  clear e
  split at e9
  · rename_i k c' kvs e2
    split at e9
    · rename_i w
      obtain ⟨rfl, w⟩ := w
      cases e9
      obtain ⟨o, g1, p', a1, a2, a3, a4, a5, dx, vs, a6, a7⟩ := S1.slot j _ e2
      subst a1
      obtain ⟨vs', e4, rs⟩ := put_zip (f := f) r1 a7
      refine ⟨_, g1, p', ct.ad c', dx, _, rfl, a6, hc, hn, ?_, ?_⟩
      · rw [List.length_zip, List.length_map]
        omega
      · rw [e4]
        exact q σ F1 _ (Same.refl _) (S1.updC e2 g1 rfl ⟨dx, vs', upd_same, rs⟩)
    · cases e9
  · cases e9
end PL
end
section
namespace PL
open PySem PySem.Spec PyProof.Rows L2
variable {K : PySem.W.Frag} {ad : Cl → Addr} {ct : CT}
variable {fr : Fr} {F F' H H' : Hp} {σ : L2.St} {ρ : List Sl} {W : WX}
/-! ### built-ins -/
def evB (g : List D → Option D) (es : List DE) : Ev := bnd (evDs es) fun ds => opt ((g ds).map Rv.d)
def evBc (g : List D → Option CC) (es : List DE) : Ev := bnd (evDs es) fun ds => opt ((g ds).map Rv.c)
variable (K ad) in
def OB (r : List V → Hp → VK → Prop) (g : List D → Option D) : Prop := ∀ {F H : Hp} {vs : List V} {ds : List D} {z : D} {Q : VK}, Same F H → Rps K ad F vs ds → g ds = some z → (∀ v, Rp K ad F v z → Q v H) → (∀ p us zs, z = .tup zs → Rps K ad F us zs → H p = none → Q (.ref p) (upd H p (.tup us))) → r vs H Q
variable (K ad) in
def OBc (r : List V → Hp → VK → Prop) (g : List D → Option CC) : Prop := ∀ {F H : Hp} {vs : List V} {ds : List D} {z : CC} {Q : VK}, Same F H → Rps K ad F vs ds → g ds = some z → (∀ p o, H p = none → (F p = none → CelR K ad F (upd H p o) p z) → Q (.ref p) (upd H p o)) → r vs H Q
theorem w_B {r : List V → Hp → VK → Prop} {g : List D → Option D} {es : List DE} {Q : VK} (O : OB K ct.ad r g) (h : TP K ct W (evB g es) σ H Q) : tCB r (TD K ct W (evDs es)) σ H Q := by
  obtain ⟨fr, F, ρ, S, h⟩ := h
  refine Tat.bnd h S fun F1 H1 ρ1 vs ds s1 S1 r1 h => ?_
  obtain ⟨z, e1, q⟩ := h.opt
  obtain ⟨y, e2, rfl⟩ := map_some e1
  refine O S1.fh r1 e2 (fun v rv => q v F1 H1 (Same.refl _) S1 rv) fun p us zs ez rs hp => ?_
  subst ez
  exact q _ (upd F1 p (.tup us)) _ (same_up (S1.nn hp)) (S1.newD hp) (Rp.tup (SqT.of upd_same) (rs.mono (same_up (S1.nn hp))))
theorem w_Bc {r : List V → Hp → VK → Prop} {g : List D → Option CC} {es : List DE} {Q : VK} (O : OBc K ct.ad r g) (h : TP K ct W (evBc g es) σ H Q) : tCB r (TD K ct W (evDs es)) σ H Q := by
  obtain ⟨fr, F, ρ, S, h⟩ := h
  refine Tat.bnd h S fun F1 H1 ρ1 vs ds s1 S1 r1 h => ?_
  obtain ⟨z, e1, q⟩ := h.opt
  obtain ⟨y, e2, rfl⟩ := map_some e1
  exact O S1.fh r1 e2 fun p o hp rc => q _ F1 _ (Same.refl _) (S1.newC hp) ⟨p, rfl, S1.fresh hp (rc (S1.nn hp))⟩
section
variable {X : Cx} {x : Str} {p pos : Pos} {e : Expr} {es : List Expr} {r : List V → Hp → VK → Prop} {as : List DE} {id T : String}
theorem pp_B {g : List D → Option D} (O : OB K ct.ad r g) (hc : CallR X (.builtin id) r) (hg : Gl X x) (hm : X.mg x = none) (hv : bootBuiltins x = some (.builtin id)) (ha : PA X (e :: es) (TD K ct W (evDs as))) (hn : x ≠ "__name__" := by decide) (hdb : (x == ("__debug__" : Str)) = false := by decide)
    (he : starEach (e :: es) X.env = (false, eval e X.env) :: starEach es X.env := by rfl) (hpl : (backTo pos (starEach es X.env)).any (·.1) = false := by rfl) : PE X (.Call (.Name x p) (e :: es) [] pos) (TP K ct W (evB g as)) := (pe_callB hc hg hm hv ha hn hdb he hpl).imp fun _ _ _ => w_B O
theorem pp_T {g : List D → Option D} (O : OB K ct.ad r g) (hc : CallR X (.type T) r) (hg : Gl X x) (hm : X.mg x = none) (hv : bootBuiltins x = some (.type T)) (ha : PA X (e :: es) (TD K ct W (evDs as))) (hn : x ≠ "__name__" := by decide) (hdb : (x == ("__debug__" : Str)) = false := by decide)
    (he : starEach (e :: es) X.env = (false, eval e X.env) :: starEach es X.env := by rfl) (hpl : (backTo pos (starEach es X.env)).any (·.1) = false := by rfl) : PE X (.Call (.Name x p) (e :: es) [] pos) (TP K ct W (evB g as)) := (pe_callTy hc hg hm hv ha hn hdb he hpl).imp fun _ _ _ => w_B O
theorem pp_Tc {g : List D → Option CC} (O : OBc K ct.ad r g) (hc : CallR X (.type T) r) (hg : Gl X x) (hm : X.mg x = none) (hv : bootBuiltins x = some (.type T)) (ha : PA X (e :: es) (TD K ct W (evDs as))) (hn : x ≠ "__name__" := by decide) (hdb : (x == ("__debug__" : Str)) = false := by decide)
    (he : starEach (e :: es) X.env = (false, eval e X.env) :: starEach es X.env := by rfl) (hpl : (backTo pos (starEach es X.env)).any (·.1) = false := by rfl) : PE X (.Call (.Name x p) (e :: es) [] pos) (TP K ct W (evBc g as)) := (pe_callTy hc hg hm hv ha hn hdb he hpl).imp fun _ _ _ => w_Bc O
end
theorem or_call {X : Cx} {f : Value} {r r' : List V → Hp → VK → Prop} (h : CallR X f r) (h' : CallR X f r') : CallR X f (fun xs H Q => r xs H Q ∨ r' xs H Q) := fun pins s σ H xs us Q I rv q => q.elim (h pins s σ H xs us Q I rv) (h' pins s σ H xs us Q I rv)
/-! len -/
def gLen : List D → Option D
  | [.lst xs] => some (.int xs.length) | [.sq xs] => some (.int xs.length) | [.tup xs] => some (.int xs.length)
  | [.str z] => if z.length ≤ 16777216 then some (.int z.length) else none
  | _ => none
def rLenA (K : PySem.W.Frag) : List V → Hp → VK → Prop := fun xs H Q => OW.wLen K xs H Q ∨ OW.wLenS xs H Q
theorem c_lenA {X : Cx} (eK : X.K = K) : CallR X (.builtin "len") (rLenA K) := by subst eK; exact or_call OW.c_len OW.c_lenS
theorem ob_len : OB K ad (rLenA K) gLen := by
  intro F H vs ds z Q s r e q _
  cases r with
  | nil => cases e
  | @cons v d vs ds r rs =>
    cases rs with
    | cons _ _ => cases d <;> cases e
    | nil =>
      cases d <;> try cases e
      · rename_i t
        cases r
        have e : (if t.length ≤ 16777216 then some (D.int t.length) else none) = some z := e
        split at e
        · rename_i h; cases e; exact .inr ⟨t, rfl, h, q _ (.int _)⟩
        · cases e
      · cases r with | tup h k => exact .inl ⟨_, _, rfl, .inr (sameT s h), by rw [k.len]; exact q _ (.int _)⟩
      · cases r with | lst h k => exact .inl ⟨_, _, rfl, .inl (SqL.of (s _ _ h)), by rw [k.len]; exact q _ (.int _)⟩
      · cases r with | sq h k => exact .inl ⟨_, _, rfl, .inl (s.seq h), by rw [k.len]; exact q _ (.int _)⟩
/-! int, str, abs, min, max -/
def gInt : List D → Option D | [.int i] => some (.int i) | [.bl b] => some (.int (if b then 1 else 0)) | _ => none
theorem ob_int : OB K ad OW.wInt1 gInt := by
  intro F H vs ds z Q s r e q _
  cases r with
  | nil => cases e
  | @cons v d vs ds r rs =>
    cases rs with
    | cons _ _ => cases d <;> cases e
    | nil =>
      cases d <;> cases e
      · cases r; exact .inr ⟨_, rfl, q _ (.int _)⟩
      · cases r; exact .inl ⟨_, rfl, q _ (.int _)⟩
def gStr : List D → Option D | [.int i] => if i.natAbs.log2 < 1920 then some (.str (toString i)) else none | _ => none
def gAbs : List D → Option D | [.int i] => some (.int (if i < 0 then -i else i)) | _ => none
def gMax2 : List D → Option D | [.int i, .int j] => some (.int (max i j)) | _ => none
def gMin2 : List D → Option D | [.int i, .int j] => some (.int (min i j)) | _ => none
def gMax3 : List D → Option D | [.int i, .int j, .int k] => some (.int (max i (max j k))) | _ => none
def gMin3 : List D → Option D | [.int i, .int j, .int k] => some (.int (min i (min j k))) | _ => none
theorem two {F : Hp} {vs : List V} {i j : Int} (r : Rps K ad F vs [.int i, .int j]) : vs = [.int i, .int j] := r.ints (ns := [i, j])
theorem three {F : Hp} {vs : List V} {i j k : Int} (r : Rps K ad F vs [.int i, .int j, .int k]) : vs = [.int i, .int j, .int k] := r.ints (ns := [i, j, k])
theorem ob_min2 : OB K ad OW.wMin2 gMin2 := by
  intro F H vs ds z Q s r e q _
  unfold gMin2 at e
  split at e
  · rename_i i j
    cases e
    have := two r
    subst this
    refine ⟨i, j, rfl, ?_⟩
    rw [show (if j < i then j else i) = min i j by split <;> omega]
    exact q _ (.int _)
  · cases e
/-- a list of ints as it lies -/
theorem Rp.lints {F H : Hp} {v : V} {d : D} {xs : List D} {ns : List Int} (s : Same F H) (r : Rp K ad F v d) (h : d.litems = some xs) (hn : D.ints xs = some ns) : ∃ p, v = .ref p ∧ SqL K H p (ns.map V.int) := by
  cases d <;> cases h
  · cases r with | lst h k => rw [D.ints_eq hn] at k; rw [k.ints] at h; exact ⟨_, rfl, SqL.of (s _ _ h)⟩
  · cases r with | sq h k => rw [D.ints_eq hn] at k; rw [k.ints] at h; exact ⟨_, rfl, s.seq h⟩
def lints (d : D) : Option (List Int) := d.litems.bind D.ints
def lbools (d : D) : Option (List Bool) := d.litems.bind D.bools
def maxI : List Int → Int | [] => 0 | n :: ns => ns.foldl max n
def minI : List Int → Int | [] => 0 | n :: ns => ns.foldl min n
theorem foldl_min' : ∀ (ns : List Int) (m : Int), ns.foldl min m ≤ m ∧ (∀ n ∈ ns, ns.foldl min m ≤ n) ∧ (ns.foldl min m = m ∨ ns.foldl min m ∈ ns)
  | [], m => ⟨Int.le_refl _, fun _ h => by simp at h, .inl rfl⟩
  | n :: ns, m => by
    obtain ⟨h1, h2, h3⟩ := foldl_min' ns (min m n)
    rw [List.foldl_cons]
    refine ⟨by omega, fun x hx => ?_, ?_⟩
    · rcases List.mem_cons.mp hx with rfl | hx
      · omega
      · exact h2 x hx
    · rcases h3 with e | e
      · rcases Int.le_total m n with c | c
        · exact .inl (by omega)
        · exact .inr (by rw [e]; exact List.mem_cons.mpr (.inl (by omega)))
      · exact .inr (List.mem_cons_of_mem _ e)
theorem minI_spec {ns : List Int} (h : ns ≠ []) : minI ns ∈ ns ∧ ∀ n ∈ ns, minI ns ≤ n := by
  cases ns with
  | nil => exact absurd rfl h
  | cons n ns =>
    obtain ⟨h1, h2, h3⟩ := foldl_min' ns n
    refine ⟨h3.elim (fun e => by show ns.foldl min n ∈ _; rw [e]; exact List.mem_cons_self) (List.mem_cons_of_mem _), fun x hx => ?_⟩
    (rcases List.mem_cons.mp hx with rfl | hx)
    · exact h1
    · exact h2 x hx
def gMaxL : List D → Option D | [d] => (lints d).bind fun ns => if ns ≠ [] then some (.int (maxI ns)) else none | _ => none
def gMinL : List D → Option D | [d] => (lints d).bind fun ns => if ns ≠ [] then some (.int (minI ns)) else none | _ => none
def gSum : List D → Option D | [d] => (lints d).map fun ns => .int ns.sum | _ => none
def gAny : List D → Option D | [d] => (lbools d).map fun bs => .bl (bs.any id) | _ => none
def gAll : List D → Option D | [d] => (lbools d).map fun bs => .bl (bs.all id) | _ => none
theorem one_i {F : Hp} {vs : List V} {d : D} (r : Rps K ad F vs [d]) : ∃ v, vs = [v] ∧ Rp K ad F v d := by
  cases r with
  | cons r rs => cases rs; exact ⟨_, rfl, r⟩
/-! tuple, list -/
def gTup : List D → Option D | [.lst xs] => some (.tup xs) | [.sq xs] => some (.tup xs) | [.tup xs] => some (.tup xs) | _ => none
def rTupA (K : PySem.W.Frag) : List V → Hp → VK → Prop := fun xs H Q => ∃ p ys, xs = [.ref p] ∧ ((SqL K H p ys ∧ ∀ l, H l = none → Q (.ref l) (upd H l (.tup ys))) ∨ (SqT K H p ys ∧ Q (.ref p) H))
theorem c_tupA {X : Cx} (eK : X.K = K) : CallR X (.type "tuple") (rTupA K) := by subst eK; exact call_tuple_of
theorem ob_tup : OB K ad (rTupA K) gTup := by
  intro F H vs ds z Q s r e q q2
  unfold gTup at e
  split at e
  · cases e
    obtain ⟨v, rfl, rv⟩ := one_i r
    cases rv with | lst h k => exact ⟨_, _, rfl, .inl ⟨SqL.of (s _ _ h), fun l hl => q2 l _ _ rfl k hl⟩⟩
  · cases e
    obtain ⟨v, rfl, rv⟩ := one_i r
    cases rv with | sq h k => exact ⟨_, _, rfl, .inl ⟨s.seq h, fun l hl => q2 l _ _ rfl k hl⟩⟩
  · cases e
    obtain ⟨v, rfl, rv⟩ := one_i r
    cases rv with | tup h k => exact ⟨_, _, rfl, .inr ⟨sameT s h, q _ (.tup h k)⟩⟩
  · cases e
def gLst : List D → Option CC | [d] => d.items.map CC.lst | _ => none
def rLstA (K : PySem.W.Frag) : List V → Hp → VK → Prop := fun xs H Q => ∃ p ys, xs = [.ref p] ∧ (SqL K H p ys ∨ SqT K H p ys) ∧ ∀ l, H l = none → Q (.ref l) (upd H l (.lst ys))
/-! ### isinstance -/
inductive TyN | b (n : String) | o (c : Cl)
  deriving DecidableEq
def TyN.v (ad : Cl → Addr) : TyN → Value | .b n => .type n | .o c => .ref (ad c)
def D.tyN : D → Option TyN
  | .non => some (.b "NoneType") | .bl _ => some (.b "bool") | .int _ => some (.b "int") | .str _ => some (.b "str") | .tup _ => some (.b "tuple") | .lst _ => some (.b "list") | .sq _ => some (.b "list")
  | .obj c _ => some (.o c) | .dK _ _ => some (.b "dict") | .dT _ _ => some (.b "dict") | _ => none
structure ClsT (K : PySem.W.Frag) (C : Addr) : Prop where
  cl : Cls K C
  c1 : PySem.W.findIn K (.ref C) "__class__" = some (some (.builtin "object.__class__"))
  c2 : PySem.W.specialIn K (.builtin "object.__class__") "__get__" = some (some (.builtin "getset_descriptor.__get__"))
  c3 : PySem.W.takesIn K (.builtin "object.__class__") = some true
  c4 : PySem.W.mroIn K C (.type "object") = some true
variable (K ad) in
inductive IsiOk (u : Value) : List (TyN × Bool) → Prop
  | nil : IsiOk u []
  | b {n : String} {x : Bool} {r : List (TyN × Bool)} (h : PySem.W.kitOne K (.type n) u = some x) (t : IsiOk u r) : IsiOk u ((.b n, x) :: r)
  | o {c : Cl} {x : Bool} {r : List (TyN × Bool)} (h : PySem.W.kitOne K (.ref (ad c)) u = some x) (k : ClsT K (ad c)) (t : IsiOk u r) : IsiOk u ((.o c, x) :: r)
theorem IsiOk.get {u : Value} : ∀ {tbl : List (TyN × Bool)} {t : TyN} {x : Bool}, IsiOk K ad u tbl → tbl.lookup t = some x → PySem.W.kitOne K (t.v ad) u = some x ∧ ∀ c, t = .o c → ClsT K (ad c)
  | _, _, _, .nil, h =>
    by cases h
  | _, t, x, .b (n := n) (x := y) (r := r) h k, e => by
    rw [List.lookup_cons] at e
    cases q : t == TyN.b n with
    | true => rw [q] at e; have e : some y = some x := e; cases e; have := beq_iff_eq.mp q; subst this; exact ⟨h, fun c z => nomatch z⟩
    | false => rw [q] at e; exact k.get e
  | _, t, x, .o (c := c0) (x := y) (r := r) h k0 k, e => by
    rw [List.lookup_cons] at e
    cases q : t == TyN.o c0 with
    | true => rw [q] at e; have e : some y = some x := e; cases e; have := beq_iff_eq.mp q; subst this; exact ⟨h, fun c z => by cases z; exact k0⟩
    | false => rw [q] at e; exact k.get e
theorem Rp.ty {F H : Hp} {v : V} {d : D} {t : TyN} (s : Same F H) (r : Rp K ad F v d) (h : d.tyN = some t) (k : ∀ c, t = .o c → ClsT K (ad c)) : TyX K H v (t.v ad) := by
  cases r with
  | non => cases h; exact .base .non
  | bl b => cases h; exact .base (.bl b)
  | int i => cases h; exact .base (.int i)
  | str x => cases h; exact .base (.str x)
  | @tup p vs ds h1 k1 =>
    cases h
    rcases sameT s h1 with (h2 | ⟨o, h2⟩) | ⟨o, its, n, h2, h3, _⟩
    · exact .base (.tup h2)
    · exact .fTuple h2
    · exact .kTuple h2 h3
  | lst h1 k1 => cases h; exact .base (.lst (s _ _ h1))
  | @sq p vs ds h1 k1 =>
    cases h
    rcases s.seq h1 with (h2 | ⟨o, h2⟩) | ⟨o, its, n, h2, h3, _⟩
    · exact .base (.lst h2)
    · exact .base (.frz h2)
    · exact .kList h2 h3
  | @obj p dx c vs ds h1 _ _ => cases h; have T := k c rfl; exact .base (.ins (s _ _ h1) T.cl T.c1 T.c2 T.c3 T.c4)
  | cl c => cases h
  | dK h1 _ _ => cases h; exact .base (.dK (s _ _ h1))
  | dT h1 _ _ => cases h; exact .base (.dT (s _ _ h1))
def evIsi (tbl : List (TyN × Bool)) (e : Ev) : Ev := bnd (dat e) fun d => opt ((d.tyN.bind fun t => tbl.lookup t).map fun b => Rv.d (.bl b))
theorem pp_isi {X : Cx} {p pos : Pos} {e c : Expr} {fe : Ev} {cv : V} {u : Value} {tbl : List (TyN × Bool)} (eK : X.K = K) (T : IsiOk K ct.ad u tbl) (hcv : ClsV cv u) (hg : Gl X "isinstance") (hm : X.mg "isinstance" = none) (he : PE X e (TP K ct W fe)) (hc : PE X c (tC cv))
    (h1 : starEach (e :: [c]) X.env = (false, eval e X.env) :: starEach [c] X.env := by rfl) (h2 : starEach [c] X.env = (false, eval c X.env) :: starEach [] X.env := by rfl) (hpl : (backTo pos (starEach [c] X.env)).any (·.1) = false := by rfl) :
    PE X (.Call (.Name "isinstance" p) [e, c] [] pos) (TP K ct W (evIsi tbl fe)) := by
  subst eK
  refine (pe_callB (x := "isinstance") call_isi hg hm (by decide +kernel) (pa_cons he (pa_cons hc pa_nil h2) h1) (by decide) (by decide) h1 hpl).imp fun σ H Q h => ?_
  obtain ⟨fr, F, ρ, S, h⟩ := h
  refine Tat.dat h S fun F1 H1 ρ1 v d s1 S1 r1 h => ?_
  obtain ⟨z, e1, q⟩ := h.opt
  obtain ⟨b, e2, rfl⟩ := map_some e1
  cases e3 : d.tyN with
  | none => rw [e3] at e2; cases e2
  | some t =>
    rw [e3] at e2
    have e2 : tbl.lookup t = some b := e2
    obtain ⟨g1, g2⟩ := T.get e2
    exact ⟨v, cv, _, u, b, rfl, hcv, r1.ty S1.fh e3 g2, g1, q _ F1 H1 (Same.refl _) S1 (Rp.bl b)⟩
end PL
end
section
namespace PL
open PySem PySem.Spec PyProof.Rows L2
variable {K : PySem.W.Frag} {ad : Cl → Addr} {ct : CT}
variable {fr : Fr} {F F' H H' : Hp} {σ : L2.St} {ρ : List Sl} {W : WX}
/-! ### raise, try -/
def evRaise (c : Cl) : M Fl := fun ρ => some (.er c none, ρ)
def evRaise1 (c : Cl) (e : Ev) : M Fl := bnd e fun _ => evRaise c
theorem Sat.raise {D : Ends} {c : Cl} (h : Sat K ct W D fr F ρ (evRaise c)) (S : Rel K ct fr F H σ ρ) : W (.ref (ct.ad c)) none σ H := by
  obtain ⟨r, ρ', e, q⟩ := h
  cases e
  exact q σ none F H (Same.refl _) S rfl
theorem s_raise {X : Cx} {x m : Str} {j : Nat} {p p2 pos pos' : Pos} {bmB : List Value} {B newId initId : String} (c : Cl) (hc : X.calm = true) (tk : Takes X W) (Fx : ExcBaseFacts B newId initId bmB) (q : PySem.W.excIn X.K (ct.ad c) bmB newId = true) (gC : X.mg x = some (.ref (ct.ad c))) (kC : PySem.W.keepIn X.K (.ref (ct.ad c)) = true) (r : Raises X (.ref (ct.ad c))) (hg : Gl X x)
    (hdb : (x == ("__debug__" : Str)) = false := by decide) : PS X (.Raise (some (.Call (.Name x p) [.Constant (.str m) j p2] [] pos)) none pos') (TSt K ct W (evRaise c)) := (ps_raise hc tk (pmk_own Fx q gC kC r hg hdb)).imp fun D σ H ⟨fr, F, ρ, S, h⟩ => Sat.raise h S
theorem s_raise1 {X : Cx} {x : Str} {p pos pos' : Pos} {e : Expr} {fe : Ev} {bmB : List Value} {B newId initId : String} (c : Cl) (hc : X.calm = true) (tk : Takes X W) (Fx : ExcBaseFacts B newId initId bmB) (q : PySem.W.excIn X.K (ct.ad c) bmB newId = true) (gC : X.mg x = some (.ref (ct.ad c))) (kC : PySem.W.keepIn X.K (.ref (ct.ad c)) = true) (r : Raises X (.ref (ct.ad c))) (hg : Gl X x)
    (he : PE X e (TP K ct W fe)) (hs : starEach [e] X.env = (false, eval e X.env) :: starEach [] X.env := by rfl) (hdb : (x == ("__debug__" : Str)) = false := by decide) : PS X (.Raise (some (.Call (.Name x p) [e] [] pos)) none pos') (TSt K ct W (evRaise1 c fe)) := (ps_raise hc tk (SkE.pmk_own1 Fx q gC kC r hg he hs hdb)).imp fun D σ H ⟨fr, F, ρ, S, h⟩ =>
  Sat.bnd K ct h S (fun _ _ _ _ z => z) fun F1 H1 ρ1 v r s1 S1 r1 h => Sat.raise h S1
def noExn (ρ : List Sl) : Bool := ρ.all fun s => match s with | .exn _ _ => false | _ => true
theorem noExn_at (h : noExn ρ = true) {i : Nat} {c : Cl} {pl : Option D} : ρ[i]? ≠ some (.exn c pl) := fun e => by
  have := List.all_eq_true.mp h _ (List.mem_of_getElem? e)
  cases this
/-- another exception is held -/
theorem Rel.ek {ct' : CT} (S : Rel K ct fr F H σ ρ) (e : ct'.ad = ct.ad) (h : noExn ρ = true) : Rel K ct' fr F H σ ρ := by
  refine ⟨S.len, S.fh, fun i s z => ?_, S.dis, S.keep, S.fro, S.pcs⟩
  obtain ⟨o, g1, g2⟩ := S.slot i s z
  refine ⟨o, g1, ?_⟩
  cases s with
  | un => trivial
  | dat d => obtain ⟨v, a1, a2⟩ := g2; exact ⟨v, a1, by rw [e]; exact a2⟩
  | cel k c => obtain ⟨p, a1, a2, a3, a4, a5, a6⟩ := g2; exact ⟨p, a1, a2, a3, a4, a5, by rw [e]; exact a6⟩
  | exn c pl => exact absurd z (noExn_at h)
theorem Rel.setX (S : Rel K ct fr F H σ ρ) {i : Nat} {c : Cl} {pl : Option D} (h : ct.ecl = .ref (ct.ad c)) (r : PlR K ct.ad F c pl ct.ed) (np : fr.pa i = none) : Rel K ct fr F H (σ.set i (some (.ref ct.ea))) (ρ.set i (.exn c pl)) := by
  have dn : ∀ {j : Nat} {k : CK} {c1 : CC}, (ρ.set i (.exn c pl))[j]? = some (.cel k c1) → j ≠ i ∧ ρ[j]? = some (.cel k c1) := fun {j k c1} e => by
    by_cases q : i = j
    · subst q
      by_cases l : i < ρ.length
      · rw [List.getElem?_set_self l] at e; cases e
      · rw [List.getElem?_eq_none (by simp; omega)] at e; cases e
    · rw [List.getElem?_set_ne q] at e; exact ⟨fun z => q z.symm, e⟩
  refine ⟨by simp [S.len], S.fh, fun j s e => ?_, fun a b k c k' c' p e1 e2 e3 e4 => ?_, S.keep, S.fro, fun j p e => ?_⟩
  · by_cases q : i = j
    · subst q
      by_cases l : i < ρ.length
      · rw [List.getElem?_set_self l] at e
        cases e
        exact ⟨_, by rw [List.getElem?_set_self (by rw [S.len]; exact l)], rfl, h, r⟩
      · rw [List.getElem?_eq_none (by simp; omega)] at e; cases e
    · rw [List.getElem?_set_ne q] at e
      obtain ⟨o, h1, h2⟩ := S.slot j s e
      exact ⟨o, by rw [List.getElem?_set_ne q]; exact h1, h2⟩
  · obtain ⟨n1, f1⟩ := dn e1
    obtain ⟨n2, f2⟩ := dn e2
    rw [List.getElem?_set_ne (Ne.symm n1)] at e3
    rw [List.getElem?_set_ne (Ne.symm n2)] at e4
    exact S.dis a b _ _ _ _ p f1 f2 e3 e4
  · obtain ⟨k, c, h1, h2⟩ := S.pcs j p e
    refine ⟨k, c, ?_, h2⟩
    rw [List.getElem?_set_ne (fun q => by rw [q, e] at np; cases np)]
    exact h1
variable (K ad) in
inductive CatOk (cv : Value) : List (Cl × Bool) → Prop
  | nil : CatOk cv []
  | cons {c : Cl} {b : Bool} {r : List (Cl × Bool)} (h : PySem.W.exmOne K (.ref (ad c)) cv = some b) (t : CatOk cv r) : CatOk cv ((c, b) :: r)
theorem CatOk.get {cv : Value} : ∀ {cat : List (Cl × Bool)} {c : Cl} {b : Bool}, CatOk K ad cv cat → cat.lookup c = some b → PySem.W.exmOne K (.ref (ad c)) cv = some b
  | _, _, _, .nil, h => by cases h
  | _, c, b, .cons (c := c0) (b := b0) h t, e => by
    rw [List.lookup_cons] at e
    cases q : c == c0 with
    | true => rw [q] at e; have e : some b0 = some b := e; cases e; have := beq_iff_eq.mp q; subst this; exact h
    | false => rw [q] at e; exact t.get e
/-- what is behind a suite -/
def suiteO (s : M Fl) : M Fl := fun ρ => if noExn ρ then match s ρ with
  | some (.ok f, ρ2) => if noExn ρ2 then some (.ok f, ρ2) else none
  | _ => none else none
def suiteA (i : Nat) (c : Cl) (pl : Option D) (s : M Fl) : M Fl := fun ρ => if noExn ρ then (match ρ[i]? with
  | some (.cel .par _) => none
  | some _ => (match s (ρ.set i (.exn c pl)) with
    | some (.ok f, ρ2) => if noExn (ρ2.set i .un) then some (.ok f, ρ2.set i .un) else none
    | _ => none)
  | none => none) else none
def evTryO (body : M Fl) (cat : List (Cl × Bool)) (s : M Fl) : M Fl := fun ρ => match body ρ with
  | some (.er c pl, ρ1) => (match cat.lookup c with
    | some true => suiteO s ρ1
    | some false => some (.er c pl, ρ1)
    | none => none)
  | r => r
def evTryA (i : Nat) (body : M Fl) (cat : List (Cl × Bool)) (s : M Fl) : M Fl := fun ρ => match body ρ with
  | some (.er c pl, ρ1) => (match cat.lookup c with
    | some true => suiteA i c pl s ρ1
    | some false => some (.er c pl, ρ1)
    | none => none)
  | r => r
/-- the context of a suite -/
abbrev CT.su (ct : CT) (a : Addr) (cls : Value) (d : Option Addr) : CT := { ct with ea := a, ecl := cls, ed := d }
theorem w_tryA {i : Nat} {cv : Value} {body s : M Fl} {cat : List (Cl × Bool)} {D : Ends} (C : CatOk K ct.ad cv cat) (h : TSt K ct W (evTryA i body cat s) D σ H) : TSt K ct (wAs K cv i (fun a cls d => TSt K (ct.su a cls d) WF s) W D) body D σ H := by
  obtain ⟨fr, F, ρ, S, r, ρ', e, q⟩ := h
  refine ⟨fr, F, ρ, S, ?_⟩
  unfold evTryA at e
  cases eb : body ρ with
  | none => rw [eb] at e; cases e
  | some x =>
    obtain ⟨rb, ρ1⟩ := x
    rw [eb] at e
    refine ⟨rb, ρ1, eb, ?_⟩
    cases rb with
    | ok f => cases e; cases f <;> exact q
    | er c pl =>
      intro σ1 d F1 H1 s1 S1 pr
      have e : (match cat.lookup c with | some true => suiteA i c pl s ρ1 | some false => some (.er c pl, ρ1) | none => none) = some (r, ρ') := e
      cases ec : cat.lookup c with
      | none => rw [ec] at e; cases e
      | some b =>
        rw [ec] at e
        refine ⟨b, C.get ec, fun hb a ha => ?_, fun hb => ?_⟩
        · subst hb
          have e : suiteA i c pl s ρ1 = some (r, ρ') := e
          unfold suiteA at e
          split at e
          · rename_i n1
            split at e
            · cases e
            · rename_i sl hn hsl
              have np := S1.npar hsl hn
              split at e
              · rename_i f ρs es
                split at e
                · rename_i n2
                  cases e
                  have S3 : Rel K (ct.su a (.ref (ct.ad c)) d) fr F1 H1 σ1 ρ1 := S1.ek rfl n1
                  refine ⟨fr, F1, _, S3.setX rfl pr np, .ok f, _, es, ?_⟩
                  cases f with
                  | nx => exact fun σ2 F2 H2 s2 S2 => q _ F2 H2 (s1.trans s2) ((S2.setU np).ek rfl n2)
                  | bk => exact fun σ2 F2 H2 s2 S2 => q _ F2 H2 (s1.trans s2) ((S2.setU np).ek rfl n2)
                  | ct => exact fun σ2 F2 H2 s2 S2 => q _ F2 H2 (s1.trans s2) ((S2.setU np).ek rfl n2)
                  | rt x =>
                    intro σ2 v F2 H2 s2 S2 rv
                    refine q σ2 v F2 H2 (s1.trans s2) ((S2.unR np).ek rfl n2) ?_
                    cases x with
                    | d d => exact rv
                    | c c =>
                      obtain ⟨p, ev, f1, f2, f3, f4, f5⟩ := rv
                      refine ⟨p, ev, f1, f2, f3, f4, fun j k c' z1 z2 => ?_⟩
                      by_cases w : i = j
                      · subst w
                        rw [List.getElem?_set] at z1
                        split at z1
                        · split at z1 <;> cases z1
                        · rename_i w; exact absurd rfl w
                      · rw [List.getElem?_set_ne w] at z1; exact f5 j k c' z1 z2
                · cases e
              · cases e
            · cases e
          · cases e
        · subst hb
          cases e
          exact q σ1 d F1 H1 s1 S1 pr
section
variable {X : Cx} {x n : Str} {cv : Value} {body suite : List Stmt} {b₀ : Stmt} {np pos pos' : Pos} {mb ms : M Fl} {cat : List (Cl × Bool)}
theorem s_tryA {i : Nat} (eK : X.K = K) (hs : X.stack = X.env :: X.outer) (hf : X.env.frame = some X.env.locals) (hN : X.N.Nodup) (hi : X.N[i]? = some n) (hln : X.env.kindOf n = some .local) (hc : Names X x cv) (tk : Takes X W) (C : CatOk K ct.ad cv cat)
    (hb : ∀ (W : WX) (pn : List (Addr × Obj)) (xe : Value → Shared → Prop), Takes (X.tr pn xe) W → PassesOwn (model X.prog X.w) X.A X.env xe → PSs (X.tr pn xe) body (TSt K ct W mb))
    (hsu : ∀ (a : Addr) (oe : Obj) (cls : Value) (d : Option Addr) (pn : List (Addr × Obj)), Zc cls d oe → (∃ vs, oe.data = .fields vs) → PSs (X.suite a ((a, oe) :: pn)) (b₀ :: suite) (TSt K (ct.su a cls d) WF ms)) :
    PS X (.Try body [.ExceptHandler (some (.Name x np)) (some n) (b₀ :: suite) pos'] [] [] pos) (TSt K ct W (evTryA i mb cat ms)) := by
  subst eK
  exact (ps_try_as hs hf hN hi hln hc tk hb hsu).imp fun D σ H => w_tryA C
end
/-! in a suite: isinstance of the exception -/
def evIsE (i : Nat) (tbl : List (TyN × Bool)) : Ev := fun ρ => match ρ[i]? with
  | some (.exn c _) => (tbl.lookup (.o c)).map fun b => (.ok (.d (.bl b)), ρ)
  | _ => none
variable (K ad) in
inductive IseOk (u : Value) : List (TyN × Bool) → Prop
  | nil : IseOk u []
  | o {c : Cl} {x : Bool} {r : List (TyN × Bool)} (h : PySem.W.kitOne K (.ref (ad c)) u = some x) (k : ExcC K (ad c)) (t : IseOk u r) : IseOk u ((.o c, x) :: r)
theorem IseOk.get {u : Value} : ∀ {tbl : List (TyN × Bool)} {c : Cl} {x : Bool}, IseOk K ad u tbl → tbl.lookup (.o c) = some x → PySem.W.kitOne K (.ref (ad c)) u = some x ∧ ExcC K (ad c)
  | _, _, _, .nil, h => by cases h
  | _, c, x, .o (c := c0) (x := y) (r := r) h k0 k, e => by
    rw [List.lookup_cons] at e
    cases q : TyN.o c == TyN.o c0 with
    | true => rw [q] at e; have e : some y = some x := e; cases e; have := beq_iff_eq.mp q; cases this; exact ⟨h, k0⟩
    | false => rw [q] at e; exact k.get e
theorem pp_isE {X : Cx} {a : Addr} {oe : Obj} {cls : Value} {d : Option Addr} {pn : List (Addr × Obj)} {x : Str} {p p2 pos : Pos} {c : Expr} {cv : V} {u : Value} {tbl : List (TyN × Bool)} (i : Nat) (eK : X.K = K) (hz : Zc cls d oe) (hf : ∃ vs, oe.data = .fields vs) (T : IseOk K ct.ad u tbl) (hcv : ∀ w, RelV cv w → w = u) (hg : Gl (X.suite a ((a, oe) :: pn)) "isinstance") (hm : X.mg "isinstance" = none)
    (he : PE (X.suite a ((a, oe) :: pn)) (.Name x p2) (tVar i)) (hc : PE (X.suite a ((a, oe) :: pn)) c (tC cv))
    (h1 : starEach ((.Name x p2) :: [c]) X.env = (false, eval (.Name x p2) X.env) :: starEach [c] X.env := by rfl) (h2 : starEach [c] X.env = (false, eval c X.env) :: starEach [] X.env := by rfl) (hpl : (backTo pos (starEach [c] X.env)).any (·.1) = false := by rfl) :
    PE (X.suite a ((a, oe) :: pn)) (.Call (.Name "isinstance" p) [.Name x p2, c] [] pos) (TP K (ct.su a cls d) W (evIsE i tbl)) := by
  subst eK
  refine (pe_callB (x := "isinstance") (OW.c_isEE hz hf) hg hm (by decide +kernel) (pa_cons he (pa_cons hc pa_nil h2) h1) (by decide) (by decide) h1 hpl).imp fun σ H Q h => ?_
  obtain ⟨fr, F, ρ, S, r, ρ', e, q⟩ := h
  unfold evIsE at e
  split at e
  · rename_i c0 pl0 e1
    obtain ⟨b, e2, e3⟩ := map_some e
    cases e3
    obtain ⟨o, g1, g2, g3, g4⟩ := S.slot i _ e1
    subst g2
    obtain ⟨t1, t2⟩ := T.get e2
    refine ⟨_, g1, ct.ad c0, cv, u, b, rfl, g3, ?_, t2, hcv, t1, q _ F H (Same.refl _) S (Rp.bl b)⟩
    cases pl0 with
    | none => exact .inl g4
    | some d0 =>
      obtain ⟨dx, f', v, h1, h2, h3, h4⟩ := g4
      exact .inr ⟨dx, _, h1, S.fh _ _ h3⟩
  · cases e
/-! in a suite: the exception's field -/
def evXf (i : Nat) (c : Cl) : Ev := fun ρ => match ρ[i]? with
  | some (.exn c' (some d)) => if c' = c then some (.ok (.d d), ρ) else none
  | _ => none
/-! ### walks over own objects -/
def itO (c : Cl) (i : Nat) (e : Ev) : M (List D) := bnd (dat e) fun d => match d with
  | .obj c' xs => if c' = c then (match xs[i]? with | some (.tup ys) => pur ys | _ => fai) else fai
  | _ => fai
/-- an __iter__ that walks a field that is a tuple -/
def spIt (K : PySem.W.Frag) (C : Addr) (f : Str) (n : Nat) : Sp := fun vs H Q _ => ∃ (p dx t : Addr) (fs : List (Str × V)) (zs : List V), vs = [.ref p] ∧ H p = some (.ins C dx fs) ∧ fs.lookup f = some (.ref t) ∧ SqT K H t zs ∧ ∀ it, H it = none → n ≤ it → Q (.ref it) (upd H it (OW.TIt t it))
end PL
end
section
namespace PL
open PySem PySem.Spec PyProof.Rows L2
variable {K : PySem.W.Frag} {ad : Cl → Addr} {ct : CT}
variable {fr : Fr} {F F' H H' : Hp} {σ : L2.St} {ρ : List Sl} {W : WX}
/-! ### a list that may change is looked at -/
mutual
def D.lfree : D → Bool
  | .non => true | .bl _ => true | .int _ => true | .str _ => true | .cl _ => true
  | .tup xs => D.lfrees xs
  | .obj _ xs => D.lfrees xs
  | _ => false
def D.lfrees : List D → Bool
  | [] => true
  | x :: xs => x.lfree && D.lfrees xs
end
/-- a heap without p -/
def era (F : Hp) (p : Addr) : Hp := fun b => if b = p then none else F b
theorem era_ne {F : Hp} {p b : Addr} (h : b ≠ p) : era F p b = F b := if_neg h
theorem era_same {F : Hp} {p : Addr} : era F p p = none := if_pos rfl
mutual
theorem Rp.era {F : Hp} {p : Addr} {us : List V} (hp : F p = some (.lst us)) : ∀ {v : V} {d : D}, Rp K ad F v d → d.lfree = true → Rp K ad (PL.era F p) v d
  | _, _, .non, _ => .non
  | _, _, .bl b, _ => .bl b
  | _, _, .int i, _ => .int i
  | _, _, .str x, _ => .str x
  | _, _, .cl c, _ => .cl c
  | _, _, .tup (p := q) h r, e => .tup (by
      have ne : ∀ {o : HO}, F q = some o → (∀ xs, o ≠ .lst xs) → PL.era F p q = F q := fun {o} w z => era_ne fun y => by
        rw [y, hp] at w
        cases w
        exact z _ rfl
      (rcases h with (h | ⟨o, h⟩) | h)
      · exact .inl (.inl (by rw [ne h (fun _ z => by cases z)]; exact h))
      · exact .inl (.inr ⟨o, by rw [ne h (fun _ z => by cases z)]; exact h⟩)
      · exact .inr h) (Rps.era hp r e)
  | _, _, .obj (p := q) h l r, e => .obj (by rw [era_ne fun y => by rw [y, hp] at h; cases h]; exact h) l (Rps.era hp r e)
  | _, _, .lst _ _, e => by cases e
  | _, _, .sq _ _, e => by cases e
  | _, _, .dK _ _ _, e => by cases e
  | _, _, .dT _ _ _, e => by cases e
theorem Rps.era {F : Hp} {p : Addr} {us : List V} (hp : F p = some (.lst us)) : ∀ {vs : List V} {ds : List D}, Rps K ad F vs ds → D.lfrees ds = true → Rps K ad (PL.era F p) vs ds
  | _, _, .nil, _ => .nil
  | _, _, .cons (d := d) (ds := ds) h r, e => by
    have e : (d.lfree && D.lfrees ds) = true := e
    rw [Bool.and_eq_true] at e
    exact .cons (Rp.era hp h e.1) (Rps.era hp r e.2)
end
def Rv.lfree : Rv → Bool
  | .d x => x.lfree
  | .c (.lst xs) => D.lfrees xs
  | _ => false
/-- the slots as a look sees them -/
def lkS (j : Nat) (xs : List D) : Nat → List Sl → List Sl
  | _, [] => []
  | i, .cel _ _ :: r => (if i = j then .dat (.lst xs) else .un) :: lkS j xs (i + 1) r
  | i, s :: r => s :: lkS j xs (i + 1) r
theorem lkS_len (j : Nat) (xs : List D) : ∀ (i : Nat) (r : List Sl), (lkS j xs i r).length = r.length
  | _, [] => rfl
  | i, s :: r => by cases s <;> exact congrArg (· + 1) (lkS_len j xs (i + 1) r)
theorem lkS_get (j : Nat) (xs : List D) : ∀ (i : Nat) (r : List Sl) (n : Nat), (lkS j xs i r)[n]? = (r[n]?).map fun s => match s with | .cel _ _ => if i + n = j then .dat (.lst xs) else .un | s => s
  | _, [], _ => by simp [lkS]
  | i, s :: r, 0 => by cases s <;> simp [lkS]
  | i, s :: r, n + 1 => by
    have e : (lkS j xs i (s :: r))[n + 1]? = (lkS j xs (i + 1) r)[n]? := by cases s <;> rfl
    rw [e, lkS_get j xs (i + 1) r n, List.getElem?_cons_succ, show i + 1 + n = i + (n + 1) by omega]
def look {α : Type} (j : Nat) (ok : α → Bool) (m : M α) : M α := fun ρ => match ρ[j]? with
  | some (.cel _ (.lst xs)) => (match m (lkS j xs 0 ρ) with
    | some (.ok r, _) => if ok r then some (.ok r, ρ) else none
    | _ => none)
  | _ => none
def lkFr (fr : Fr) (F1 H : Hp) : Fr := ⟨fun b => if F1 b = none then H b else none, F1, fun _ => none⟩
theorem w_look {α β : Type} {R : Rel3 β α} {j : Nat} {good : α → Bool} {m : M α} {Q : β → Hp → Prop}
    (hR : ∀ {p : Addr} {us : List V} {F1 F' H' : Hp} {ρ' : List Sl} {v : β} {r : α}, F1 p = some (.lst us) → F p = none → H p = some (.lst us) → Rel K ct fr F H σ ρ → Rel K ct fr (era F' p) H' σ ρ → Same F1 F' → (∀ b, F1 b = none → H b ≠ none → b ≠ p) → (∀ b, b ≠ p → F1 b = F b) → good r = true → R (lkFr fr F1 H) F' H' σ ρ' v r → R fr (era F' p) H' σ ρ v r)
    (S : Rel K ct fr F H σ ρ) (h : Tat K ct R W fr F ρ (look j good m) σ Q) : T K ct R W m σ H Q := by
  obtain ⟨r, ρ', e, q⟩ := h
  unfold look at e
  split at e
  · rename_i k xs hj
    split at e
    · rename_i r0 ρ2 em
      split at e
      · rename_i hg
        cases e
        obtain ⟨o, g1, p, g2, g3, g4, g5, g6, us, g7, g8⟩ := S.slot j _ hj
        subst g2
        have s01 : Same F (upd F p (.lst us)) := fun b o z => by rw [upd_ne (ne_of_none z g3)]; exact z
        have S1 : Rel K ct (lkFr fr (upd F p (.lst us)) H) (upd F p (.lst us)) H σ (lkS j xs 0 ρ) := by
          have nc : ∀ {i : Nat} {k : CK} {c : CC}, (lkS j xs 0 ρ)[i]? ≠ some (.cel k c) := fun {i k c} z => by
            rw [lkS_get] at z
            cases y : ρ[i]? with
            | none => rw [y] at z; cases z
            | some s =>
              rw [y] at z
              cases s <;> simp at z
              split at z <;> cases z
          refine ⟨by rw [lkS_len]; exact S.len, fun b o z => ?_, fun i s z => ?_, fun a b k c k' c' p e1 _ _ _ => absurd e1 nc, fun b o z => ?_, fun b hb h0 => h0, fun i p z => by cases z⟩
          · by_cases y : b = p
            · subst y; rw [upd_same] at z; cases z; exact g7
            · rw [upd_ne y] at z; exact S.fh _ _ z
          · rw [lkS_get] at z
            cases y : ρ[i]? with
            | none => rw [y] at z; cases z
            | some s0 =>
              rw [y] at z
              obtain ⟨o, h1, h2⟩ := S.slot i _ y
              refine ⟨o, h1, ?_⟩
              cases s0 with
              | un => simp at z; subst z; trivial
              | dat d => simp at z; subst z; obtain ⟨v, a1, a2⟩ := h2; exact ⟨v, a1, a2.mono s01⟩
              | exn c pl => simp at z; subst z; exact ⟨h2.1, h2.2.1, h2.2.2.mono s01⟩
              | cel k c =>
                simp at z
                by_cases w : i = j
                · subst w
                  simp at z
                  subst z
                  rw [g1] at h1
                  cases h1
                  exact ⟨_, rfl, .lst upd_same (g8.mono s01)⟩
                · rw [if_neg w] at z
                  subst z
                  trivial
          · have z : (if upd F p (.lst us) b = none then H b else none) = some o := z
            split at z
            · exact z
            · cases z
        refine ⟨_, _, _, S1, .ok r0, ρ2, em, fun v F' H' s R1 rv => ?_⟩
        have P1 : ∀ b, upd F p (.lst us) b = none → (lkFr fr (upd F p (.lst us)) H).P b = H b := fun b z => if_pos z
        have hh : Same H H' := fun b o z => by
          cases y : upd F p (.lst us) b with
          | none => exact R1.keep b o (by rw [P1 b y]; exact z)
          | some o' =>
            have := S1.fh _ _ y
            rw [z] at this
            cases this
            exact R1.fh _ _ (s _ _ y)
        have al : Al F H (era F' p) H' := ⟨fun b o z => by rw [era_ne (ne_of_none z g3)]; exact s _ _ (s01 _ _ z), hh, fun b o z => by
          by_cases y : b = p
          · subst y; rw [era_same] at z; cases z
          · rw [era_ne y] at z; exact R1.fh _ _ z, fun b hb h0 => by
          by_cases y : b = p
          · subst y; exact era_same
          · rw [era_ne y]
            have z : upd F p (.lst us) b = none := by rw [upd_ne y]; exact h0
            exact R1.fro b (by rw [P1 b z]; exact hb) z⟩
        have S2 := S.al al
        exact q v _ H' al.1 S2 (hR upd_same g3 g7 S S2 s (fun b z _ y => by subst y; rw [upd_same] at z; cases z) (fun b y => upd_ne y) hg rv)
      · cases e
    · cases e
  · cases e
theorem look_v {X : Cx} {e : Expr} {m : Ev} (j : Nat) (h : PE X e (TP K ct W m)) : PE X e (TP K ct W (look j Rv.lfree m)) := h.imp fun σ H Q ⟨fr, F, ρ, S, h⟩ => by
  refine w_look (fun {p us F1 F' H' ρ' v r} h1 h2 h3 S S2 s nb eq hg rv => ?_) S h
  have hp : F' p = some (.lst us) := s _ _ h1
  cases r with
  | d d => exact Rp.era hp rv hg
  | c c =>
    cases c with
    | lst xs =>
      obtain ⟨p', e1, f1, f2, f3, ⟨vs, f4, f6⟩, f5⟩ := rv
      have f2 : (if F1 p' = none then H p' else none) = none := f2
      have n1 : F1 p' = none := by
        cases y : F1 p' with
        | none => rfl
        | some o => rw [s _ _ y] at f1; cases f1
      rw [if_pos n1] at f2
      have np : p' ≠ p := fun y => by rw [y, h3] at f2; cases f2
      refine ⟨p', e1, by rw [era_ne np]; exact f1, S.np f2, fun i z => ?_, ⟨vs, f4, Rps.era hp f6 hg⟩, fun i k c z1 z2 => ?_⟩
      · obtain ⟨k, c, y1, y2⟩ := S.pcs i _ z
        obtain ⟨o, a1, p2, a2, a3, a4, a5, a6, a7⟩ := S.slot i _ y1
        rw [a5 y2] at z
        cases z
        obtain ⟨o, ho⟩ := a7.at
        rw [f2] at ho
        cases ho
      · obtain ⟨p2, o, y1, y2⟩ := S.cell_at z1
        rw [y1] at z2
        cases z2
        rw [f2] at y2
        cases y2
    | _ => cases hg
/-! ### truth -/
def D.truth : D → Option Bool
  | .bl b => some b | .int i => some (decide (i ≠ 0)) | .non => some false
  | .lst xs => some (!xs.isEmpty) | .sq xs => some (!xs.isEmpty) | .tup xs => some (!xs.isEmpty)
  | _ => none
theorem Rps.emp {F : Hp} : ∀ {vs : List V} {ds : List D}, Rps K ad F vs ds → vs.isEmpty = ds.isEmpty
  | _, _, .nil => rfl
  | _, _, .cons _ _ => rfl
theorem Rp.tru {F H : Hp} {v : V} {d : D} {b : Bool} (s : Same F H) (r : Rp K ad F v d) (h : d.truth = some b) : TruV K v H b := by
  cases r with
  | non => cases h; rfl
  | bl _ => cases h; rfl
  | int i => cases h; show _ = _; by_cases e : i = 0 <;> simp [e]
  | str _ => cases h
  | tup h1 k1 => cases h; exact .inr (.inl ⟨_, sameT s h1, by rw [k1.emp]⟩)
  | lst h1 k1 => cases h; exact .inl ⟨_, .inl (.inl (s _ _ h1)), by rw [k1.emp]⟩
  | sq h1 k1 => cases h; exact .inl ⟨_, s.seq h1, by rw [k1.emp]⟩
  | obj _ _ _ => cases h
  | cl _ => cases h
  | dK _ _ _ => cases h
  | dT _ _ _ => cases h
def tTr (m : Ev) : M Bool := bnd (dat m) fun d => opt d.truth
def vNoT (m : Ev) : Ev := bnd (dat m) fun d => opt (d.truth.map fun b => Rv.d (.bl (!b)))
theorem pp_ttr {X : Cx} {a : Expr} {m : Ev} (eK : X.K = K) (ha : PE X a (TP K ct W m)) (he : ∀ whole, isTrue a X.env whole = (do let v ← whole; standAt a.pos; holding [v] (truthy v)) := by intro _; rfl) : PT X a (TB K ct W (tTr m)) := by
  subst eK
  refine (pt_truth ha he).imp fun σ H Q ⟨fr, F, ρ, S, h⟩ => ?_
  refine Tat.dat h S fun F1 H1 ρ1 v d s1 S1 r1 h => ?_
  obtain ⟨b, e, q⟩ := h.opt
  exact ⟨b, r1.tru S1.fh e, q b F1 H1 (Same.refl _) S1 rfl⟩
/-! ### [::-1] -/
def evRev (m : Ev) : Ev := bnd (dat m) fun d => match d.litems with | some xs => pur (.c (.lst xs.reverse)) | none => fai
end PL
end
section
namespace PL
open PySem PySem.Spec PyProof.Rows L2
variable {K : PySem.W.Frag} {ad : Cl → Addr} {ct : CT}
variable {fr : Fr} {F F' H H' : Hp} {σ : L2.St} {ρ : List Sl} {W : WX}
/-! ### a op b op c op d as a test -/
def ch3 (g g' g'' : D → D → Option D) (a b c d : Ev) : M Bool := bnd (dat a) fun x => bnd (dat b) fun y => bnd (opt (g x y)) fun z => match z with
  | .bl true => bnd (dat c) fun u => bnd (opt (g' y u)) fun z2 => (match z2 with
    | .bl true => bnd (dat d) fun v => bnd (opt (g'' u v)) fun z3 => (match z3 with | .bl k => pur k | _ => fai)
    | .bl false => pur false
    | _ => fai)
  | .bl false => pur false
  | _ => fai
/-! ### a class's constant -/
/-! ### dicts that change, their keys ints or texts -/
def D.key : D → Option Key | .int i => some (.inl i) | .str s => some (.inr s) | _ => none
theorem Rp.key {F : Hp} {v : V} {d : D} {k : Key} (r : Rp K ad F v d) (h : d.key = some k) : v = kV k := by
  cases r <;> cases h <;> rfl
def dval (kvs : List (Key × D)) (k : Key) : Option D := (kvs.find? fun kv => decide (kv.1 = k)).map (·.2)
def dput (kvs : List (Key × D)) (k : Key) (d : D) : List (Key × D) := if (kvs.any fun kv => decide (kv.1 = k)) = true then kvs.map (fun kv => if kv.1 = k then (kv.1, d) else kv) else kvs ++ [(k, d)]
def isK (j : Nat) : Ev := fun ρ => match ρ[j]? with | some (.cel _ (.dK _)) => some (.ok (.d .non), ρ) | _ => none
def getK (j : Nat) (f : List (Key × D) → Option D) : Ev := fun ρ => match ρ[j]? with
  | some (.cel _ (.dK kvs)) => (f kvs).map fun d => (.ok (.d d), ρ)
  | _ => none
/-- d[k], d in slot j -/
def evDGet (j : Nat) (ke : Ev) : Ev := bnd (isK j) fun _ => bnd (dat ke) fun k => getK j fun kvs => k.key.bind (dval kvs)
/-- d.get(k, x) -/
def evDGet2 (j : Nat) (ke de : Ev) : Ev := bnd (isK j) fun _ => bnd (dat ke) fun k => bnd (dat de) fun d => getK j fun kvs => k.key.map fun k => (dval kvs k).getD d
/-- k in d -/
def evDIn (j : Nat) (ke : Ev) : Ev := bnd (dat ke) fun k => getK j fun kvs => k.key.map fun k => .bl (dval kvs k).isSome
/-- d[k] = e -/
def evDPut (j : Nat) (ke e : Ev) : M Fl := bnd (dat e) fun d => bnd (isK j) fun _ => bnd (dat ke) fun k => fun ρ => match ρ[j]? with
  | some (.cel c (.dK kvs)) => (match k.key with
    | some k => if kvs.length < 16777216 then some (.ok .nx, ρ.set j (.cel c (.dK (dput kvs k d)))) else none
    | none => none)
  | _ => none
theorem isK_eq {j : Nat} {r : Ex Rv} {ρ' : List Sl} (e : isK j ρ = some (r, ρ')) (S : Rel K ct fr F H σ ρ) : ∃ p kvs, r = .ok (.d .non) ∧ ρ' = ρ ∧ σ[j]? = some (some (.ref p)) ∧ H p = some (.dK kvs) := by
  unfold isK at e
  split at e
  · rename_i k kvs h
    cases e
    obtain ⟨o, g1, p, a1, a2, a3, a4, a5, vs, a6, a7⟩ := S.slot j _ h
    subst a1
    exact ⟨p, _, rfl, rfl, g1, a6⟩
  · cases e
theorem Tat.isK {δ γ : Type} {R' : Rel3 δ γ} {j : Nat} {k : Rv → M γ} {Q : δ → Hp → Prop} (h : Tat K ct R' W fr F ρ (PL.bnd (PL.isK j) k) σ Q) (S : Rel K ct fr F H σ ρ) :
    ∃ p kvs, σ[j]? = some (some (.ref p)) ∧ H p = some (.dK kvs) ∧ Tat K ct R' W fr F ρ (k (.d .non)) σ Q := by
  obtain ⟨r, ρ', e, q⟩ := h
  unfold PL.bnd at e
  cases em : PL.isK j ρ with
  | none => rw [em] at e; cases e
  | some x =>
    obtain ⟨r1, ρ1⟩ := x
    rw [em] at e
    obtain ⟨p, kvs, rfl, rfl, g1, g2⟩ := isK_eq em S
    exact ⟨p, kvs, g1, g2, r, ρ', e, q⟩
theorem Sat.isK {D : Ends} {j : Nat} {k : Rv → M Fl} (h : Sat K ct W D fr F ρ (PL.bnd (PL.isK j) k)) (S : Rel K ct fr F H σ ρ) :
    ∃ p kvs, σ[j]? = some (some (.ref p)) ∧ H p = some (.dK kvs) ∧ Sat K ct W D fr F ρ (k (.d .non)) := by
  obtain ⟨r, ρ', e, q⟩ := h
  unfold PL.bnd at e
  cases em : PL.isK j ρ with
  | none => rw [em] at e; cases e
  | some x =>
    obtain ⟨r1, ρ1⟩ := x
    rw [em] at e
    obtain ⟨p, kvs, rfl, rfl, g1, g2⟩ := isK_eq em S
    exact ⟨p, kvs, g1, g2, r, ρ', e, q⟩
theorem Tat.getK {j : Nat} {f : List (Key × D) → Option D} {Q : VK} (h : Tat K ct (RV K ct.ad) W fr F ρ (PL.getK j f) σ Q) (S : Rel K ct fr F H σ ρ) {p : Addr} (hp : σ[j]? = some (some (.ref p))) :
    ∃ kvs vs d, H p = some (.dK ((kvs.map (·.1)).zip vs)) ∧ Rps K ct.ad F vs (kvs.map (·.2)) ∧ f kvs = some d ∧ ∀ v, Rp K ct.ad F v d → Q v H := by
  obtain ⟨r, ρ', e, q⟩ := h
  unfold PL.getK at e
  split at e
  · rename_i k kvs h
    obtain ⟨d, e1, e2⟩ := map_some e
    cases e2
    obtain ⟨o, g1, p', a1, a2, a3, a4, a5, vs, a6, a7⟩ := S.slot j _ h
    subst a1
    rw [hp] at g1
    cases g1
    exact ⟨kvs, vs, d, a6, a7, e1, fun v r => q v F H (Same.refl _) S r⟩
  · cases e
section
variable {X : Cx} {x : Str} {p pos : Pos} {ke de : Expr} {fk fd : Ev}
/-- sorted(d, reverse=True), the keys ints -/
def keysI : List (Key × D) → Option (List Int)
  | [] => some []
  | (.inl i, _) :: r => (keysI r).map (i :: ·)
  | _ => none
def insG (x : Int) : List Int → List Int
  | [] => [x]
  | y :: r => if y ≤ x then x :: y :: r else y :: insG x r
/-- from the greatest down -/
def down : List Int → List Int
  | [] => []
  | x :: r => insG x (down r)
def evSortDR (j : Nat) : Ev := fun ρ => match ρ[j]? with
  | some (.cel _ (.dK kvs)) => (keysI kvs).map fun ks => (.ok (.c (.lst ((down ks).map D.int))), ρ)
  | _ => none
theorem Rps.ofInts {F : Hp} : ∀ ns : List Int, Rps K ad F (ns.map V.int) (ns.map D.int)
  | [] => .nil
  | n :: ns => .cons (.int n) (Rps.ofInts ns)
end
/-! ### max(.., default=n) -/
def gMaxD (n : Int) : List D → Option D | [d] => (lints d).map fun ns => .int (OW.maxL n ns) | _ => none
def evMaxD (es : List DE) (de : Ev) : Ev := bnd (evDs es) fun ds => bnd (dat de) fun d => match d with | .int n => opt ((gMaxD n ds).map Rv.d) | _ => fai
end PL
namespace PL
open PySem PySem.Spec PyProof.Rows L2
end PL
end
section
namespace PL
open PySem PySem.Spec PyProof.Rows L2
variable {K : PySem.W.Frag} {ad : Cl → Addr} {ct : CT}
variable {fr : Fr} {F F' H H' : Hp} {σ : L2.St} {ρ : List Sl} {W : WX}
/-! ### x in y -/
def dInB : D → D → Option Bool
  | .int i, e => (e.items.bind D.ints).map fun ns => ns.contains i
  | .str s, .str z => match s.cps.toList with | [c] => some (decide (c ∈ z.cps.toList)) | _ => none
  | .str s, e => (e.items.bind D.strs).map fun ys => ys.contains s
  | _, _ => none
def dIn (d e : D) : Option D := (dInB d e).map .bl
def dNotIn (d e : D) : Option D := (dInB d e).map fun b => .bl (!b)
def rSign (neg : Bool) : R2 := fun x y H Q => ∃ (c : Nat) (z : Str), x = .str ⟨#[c]⟩ ∧ y = .str z ∧ Q (.bl (if neg then !decide (c ∈ z.cps.toList) else decide (c ∈ z.cps.toList))) H
def rInB (K : PySem.W.Frag) (neg : Bool) : R2 := fun x y H Q => rIn K neg x y H Q ∨ rSign neg x y H Q
end PL
namespace PL
open PySem PySem.Spec PyProof.Rows L2
/-- what the top asks of the law's def -/
def spLaw (K : PySem.W.Frag) : Sp := fun vs H Q _ => ∃ (a : Addr) (ns : List Int), vs = [.ref a] ∧ SqL K H a (ns.map V.int) ∧ ns.length ≤ 63 ∧ ∀ H', Q (.bl true) H'
theorem spLaw_of {K : PySem.W.Frag} {ad : Cl → Addr} {G : Fn} (h : ∀ ns : List Int, ns.length ≤ 63 → ∃ ρ, G [.dat (.sq (ns.map D.int))] = some (.ok (.d (.bl true)), ρ)) : ∀ vs H Q E, spLaw K vs H Q E → spP K ad 1 G vs H Q E := by
  rintro vs H Q E ⟨a, ns, rfl, hs, hl, q⟩
  obtain ⟨ρ, e⟩ := h ns hl
  have S : Rel K (cx ad) ⟨H, H, fun _ => none⟩ H H ([V.ref a].map some) [.dat (.sq (ns.map D.int))] := by
    refine ⟨rfl, Same.refl _, fun i s z => ?_, fun i j k c k' c' p z => ?_, Same.refl _, fun b _ z => z, fun i p z => by cases z⟩
    · cases i with
      | zero =>
        cases z
        exact ⟨_, rfl, _, rfl, .sq hs (Rps.ofInts ns)⟩
      | succ i => simp at z
    · cases i with
      | zero => cases z
      | succ i => simp at z
  refine ⟨rfl, _, H, _, S, fun _ _ => rfl, rfl, _, ρ, e, fun v F' H' s S' r => ?_⟩
  cases r
  exact q H'
end PL
end
section
namespace PL
open PySem PySem.Spec PyProof.Rows L2
variable {K : PySem.W.Frag} {ad : Cl → Addr} {ct : CT}
variable {fr : Fr} {F F' H H' : Hp} {σ : L2.St} {ρ : List Sl} {W : WX}
/-! ### a new cell handed straight to a def -/
/-- the frame that holds fast what stands at p -/
def Fr.hold (fr : Fr) (p : Addr) (o : HO) : Fr := { P := fun b => if b = p then some o else fr.P b, F0 := fun b => if b = p then none else fr.F0 b, pa := fr.pa }
theorem SlR.refr {fr fr' : Fr} {i : Nat} {o : Option V} {s : Sl} (h : SlR K ct fr F H i o s) (ep : fr'.pa = fr.pa) (eP : ∀ p, o = some (.ref p) → (∃ k c, s = .cel k c) → fr.P p = none → fr'.P p = none) : SlR K ct fr' F H i o s := by
  cases s with
  | un => exact h
  | dat d => exact h
  | cel k c =>
    obtain ⟨p, e, h1, h2, h3, h4, h5⟩ := h
    exact ⟨p, e, h1, eP p e ⟨k, c, rfl⟩ h2, by rw [ep]; exact h3, by rw [ep]; exact h4, h5⟩
  | exn c pl => exact h
theorem Rel.hold {p : Addr} {c : CC} {o : HO} (S : Rel K ct fr F H σ ρ) (f : Fresh K ct.ad fr F H σ ρ p c) (ho : H p = some o) : Rel K ct (fr.hold p o) F H σ ρ := by
  obtain ⟨f1, f2, f3, f4, f5⟩ := f
  refine ⟨S.len, S.fh, fun i s e => ?_, S.dis, fun b x e => ?_, fun b hb h0 => ?_, S.pcs⟩
  · obtain ⟨u, e1, r⟩ := S.slot i s e
    refine ⟨u, e1, SlR.refr r rfl fun q eq ⟨k, c', es⟩ hq => ?_⟩
    subst es
    have ne : q ≠ p := fun z => f5 i k c' e (by rw [e1, eq, z])
    show (if q = p then some o else fr.P q) = none
    rw [if_neg ne]; exact hq
  · have e : (if b = p then some o else fr.P b) = some x := e
    by_cases z : b = p
    · rw [if_pos z] at e; cases e; rw [z]; exact ho
    · rw [if_neg z] at e; exact S.keep b x e
  · by_cases z : b = p
    · rw [z]; exact f1
    · refine S.fro b (fun y => hb ?_) ?_
      · show (if b = p then some o else fr.P b) = none
        rw [if_neg z]; exact y
      · have h0 : (if b = p then none else fr.F0 b) = none := h0
        rw [if_neg z] at h0; exact h0
theorem Rel.unhold {p : Addr} {o : HO} (S : Rel K ct (fr.hold p o) F H σ ρ) (hp : fr.P p = none) : Rel K ct fr F H σ ρ := by
  refine ⟨S.len, S.fh, fun i s e => ?_, S.dis, fun b x e => ?_, fun b hb h0 => ?_, S.pcs⟩
  · obtain ⟨u, e1, r⟩ := S.slot i s e
    refine ⟨u, e1, SlR.refr r rfl fun q eq ⟨k, c', es⟩ hq => ?_⟩
    have hq : (if q = p then some o else fr.P q) = none := hq
    by_cases z : q = p
    · rw [if_pos z] at hq; cases hq
    · rw [if_neg z] at hq; exact hq
  · have z : b ≠ p := fun z => by rw [z, hp] at e; cases e
    refine S.keep b x ?_
    show (if b = p then some o else fr.P b) = some x
    rw [if_neg z]; exact e
  · have z : b ≠ p := fun z => hb (by rw [z]; exact hp)
    refine S.fro b (fun y => hb ?_) ?_
    · have y : (if b = p then some o else fr.P b) = none := y
      rw [if_neg z] at y; exact y
    · show (if b = p then none else fr.F0 b) = none
      rw [if_neg z]; exact h0
theorem Rel.heldF {p : Addr} {c : CC} {o : HO} {F0 H0 : Hp} {σ0 : L2.St} {ρ0 : List Sl} (S : Rel K ct (fr.hold p o) F H σ ρ) (f : Fresh K ct.ad fr F0 H0 σ0 ρ0 p c) (ho : H0 p = some o) (s : Same F0 F) : Fresh K ct.ad fr F H σ ρ p c := by
  obtain ⟨f1, f2, f3, f4, f5⟩ := f
  have at_p : (fr.hold p o).P p = some o := if_pos rfl
  refine ⟨S.fro p (by rw [at_p]; simp) (if_pos rfl), f2, f3, f4.keep s (by rw [ho]; exact S.keep p o at_p), fun i k c' e z => ?_⟩
  obtain ⟨u, e1, r⟩ := S.slot i _ e
  obtain ⟨q, eq, _, h2, _⟩ := r
  rw [e1, eq] at z
  injection z with z; injection z with z; injection z with z
  rw [z, at_p] at h2; cases h2
theorem Fresh.pop {p q : Addr} {c : CC} (h : Fresh K ct.ad fr F H (σ ++ [some (.ref q)]) ρ p c) : Fresh K ct.ad fr F H σ (ρ.take σ.length) p c := by
  obtain ⟨f1, f2, f3, f4, f5⟩ := h
  refine ⟨f1, f2, f3, f4, fun i k c' e z => ?_⟩
  rw [List.getElem?_take] at e
  split at e
  · rename_i l
    exact f5 i k c' e (by rw [List.getElem?_append_left l]; exact z)
  · cases e
/-- .. the call itself: the cell stands behind the slots while it runs -/
def callN (n : Nat) (G : Fn) (c : CC) (ar : List Ar) : Ev := fun ρ => match callG n G (.c ρ.length :: ar) (ρ ++ [.cel .own c]) with
  | some (r, ρ1) => some (r, ρ1.take ρ.length)
  | none => none
def evCallN (n : Nat) (G : Fn) (m : Ev) (as : List AE) (ds : List D := []) : Ev := bnd m fun r => match r with
  | .c c => bnd (evAs as) fun ar => callN n G c (ar ++ ds.map .d)
  | .d _ => fai
def evCallN0 (n : Nat) (G : Fn) (m : Ev) (as : List AE) (ds : List D := []) : Ev := bnd m fun r => match r with
  | .c c => bnd (evAs as) fun ar => noEr (callN n G c (ar ++ ds.map .d))
  | .d _ => fai
theorem Tat.callN {n : Nat} {G : Fn} {p : Addr} {c : CC} {vs : List V} {ar : List Ar} {Q : VK} {E : XK} (h : Tat K ct (RV K ct.ad) W fr F ρ (PL.callN n G c ar) σ Q) (S : Rel K ct fr F H σ ρ) (f : Fresh K ct.ad fr F H σ ρ p c) (r : RAs K ct.ad F σ vs ar) (hE : ∀ cls d H', W cls d σ H' → E cls d H') : spP K ct.ad n G (.ref p :: vs) H Q E := by
  have S1 := S.push f
  have l := S.len
  have np : fr.pa σ.length = none := by
    cases z : fr.pa σ.length with
    | none => rfl
    | some q =>
      obtain ⟨k1, c1, h1, h2⟩ := S.pcs _ q z
      have := (List.getElem?_eq_some_iff.mp h1).1
      omega
  have last : (σ ++ [some (V.ref p)])[ρ.length]? = some (some (V.ref p)) := by rw [← l]; simp
  refine Tat.call (W := fun cls d _ H' => W cls d σ H') (ar := .c ρ.length :: ar) (fr := fr) (F := F) (ρ := ρ ++ [.cel .own c]) (σ := σ ++ [some (.ref p)]) ?_ S1 (RAs.cons (show RA1 K ct.ad F (σ ++ [some (V.ref p)]) (.ref p) (.c ρ.length) from last) (RAs.push (o := some (V.ref p)) r)) hE
  obtain ⟨r0, ρ0, e, q⟩ := h
  unfold PL.callN at e
  cases ec : callG n G (.c ρ.length :: ar) (ρ ++ [.cel .own c]) with
  | none => rw [ec] at e; cases e
  | some y =>
    obtain ⟨ry, ρ1⟩ := y
    rw [ec] at e
    cases e
    refine ⟨r0, ρ1, ec, ?_⟩
    rw [← l] at q
    cases r0 with
    | er c' pl => exact fun d F' H' s' S' pr => q d F' H' s' (S'.pop np) pr
    | ok rv => exact fun v F' H' s' S' rr => q v F' H' s' (S'.pop np) (by
        cases rv with
        | d d => exact rr
        | c c' => obtain ⟨x, ex, fx⟩ := rr; exact ⟨x, ex, fx.pop⟩)
/-- the other arguments, while the cell is held fast -/
theorem Tat.held {β : Type} {R' : Rel3 β Rv} {p : Addr} {c : CC} {as : List AE} {k : List Ar → Ev} {Q : β → Hp → Prop} {Q1 : List V → Hp → Prop} (h : Tat K ct R' W fr F ρ (PL.bnd (evAs as) k) σ Q) (S : Rel K ct fr F H σ ρ) (f : Fresh K ct.ad fr F H σ ρ p c)
    (hq : ∀ F1 H1 ρ1 vs ar, Same F F1 → Rel K ct fr F1 H1 σ ρ1 → Fresh K ct.ad fr F1 H1 σ ρ1 p c → RAs K ct.ad F1 σ vs ar → Tat K ct R' W fr F1 ρ1 (k ar) σ Q → Q1 vs H1) : TAr K ct W (evAs as) σ H Q1 := by
  obtain ⟨o, ho⟩ := f.2.2.2.1.at
  have hp := f.2.1
  refine ⟨fr.hold p o, F, ρ, S.hold f ho, ?_⟩
  obtain ⟨r, ρ', e, q⟩ := h
  unfold PL.bnd at e
  cases em : evAs as ρ with
  | none => rw [em] at e; cases e
  | some x =>
    obtain ⟨r1, ρ1⟩ := x
    rw [em] at e
    refine ⟨r1, ρ1, em, ?_⟩
    cases r1 with
    | er c' pl =>
      cases e
      exact fun d F1 H1 s1 S1 pr => q d F1 H1 s1 (S1.unhold hp) pr
    | ok ar =>
      intro vs F1 H1 s1 S1 rr
      refine hq F1 H1 ρ1 vs ar s1 (S1.unhold hp) (S1.heldF f ho s1) rr ⟨r, ρ', e, ?_⟩
      cases r with
      | ok a => exact fun v F2 H2 s2 S2 rr => q v F2 H2 (s1.trans s2) S2 rr
      | er c' pl => exact fun d F2 H2 s2 S2 rr => q d F2 H2 (s1.trans s2) S2 rr
section
variable {X : Cx} {CX : CXT} {k : Nat} {f : Addr} {fd : FuncData} {ps : List Str} {x : Str} {p pos : Pos} {e : Expr} {es : List Expr} {n : Nat} {G : Fn} {m : Ev} {as : List AE} {dvs : List V} {dds : List D} {ds : List Value}
end
end PL
end
section
namespace PL
open PySem PySem.Spec PyProof.Rows L2
variable {K : PySem.W.Frag} {ad : Cl → Addr} {ct : CT}
variable {fr : Fr} {F F' H H' : Hp} {σ : L2.St} {ρ : List Sl} {W : WX}
/-! ### methods of a class -/
/-- C.m is the plain def at g -/
structure SMet (K : PySem.W.Frag) (C : Addr) (mc : Value) (m : Str) (p g : Addr) : Prop where
  fnd : PySem.W.findCls K (.ref C) mc m = some (.get (.builtin "staticmethod.__get__") (.ref p) .none (.ref C))
  wraps : ∃ rest, PySem.W.recIn K p "staticmethod" = some (.ref g :: rest)
def evCallC (n : Nat) (G : Fn) (c : Cl) (as : List AE) : Ev := bnd (evAs as) fun ar => noEr (callG n G (.d (.cl c) :: ar))
section
variable {X : Cx} {CX : CXT} {k : Nat} {f : Addr} {fd : FuncData} {ps : List Str} {x m : Str} {p pos apos : Pos} {e o : Expr} {es : List Expr} {n : Nat} {G : Fn} {as : List AE} {dvs : List V} {dds : List D} {ds : List Value} {q : Addr} {mc : Value} {sp : Sp}
theorem sm_here {pins : List (Addr × Obj)} {s : Shared} {A : Around} {C : Addr} {E : Value → Shared → Prop} {pl : Sem Bool} {Q : Value × List Value → Shared → Prop} (I : Inv X pins σ H s) (r : ClX.CRead X.K C mc) (c : SMet X.K C mc m q f)
    (h : ∀ s1, Inv X pins σ H s1 → Q (.ref f, []) s1) : wpAny (model X.prog X.w) A (getMethod (.ref C) m pl) Q E s := by
  obtain ⟨rest, hp⟩ := c.wraps
  refine PySem.W.method_cls I.kIn r.ga (PySem.W.cls_bind I.kIn r.rd c.fnd ?_)
  exact wpAny_call (PySem.W.sm_get (s := { s with toks := s.toks + 1 }) I.kIn hp (PySem.W.handed_on rfl (h _ (I.tok _))))
/-- what raises goes on by the slots as they stand -/
def tSM (C : Addr) (sp : Sp) (dvs : List V) (E : L2.St → XK) (ta : TE) (t : TA) : TE := fun σ H Q => ta σ H fun y H1 => y = .ref C ∧ t σ H1 fun vs H2 => sp (vs ++ dvs) H2 Q (E σ)
theorem pe_sm {C : Addr} {pl : Sem Bool} {E : L2.St → XK} {ta : TE} {t : TA} (he : PE X o ta) (r : ClX.CRead X.K C mc) (c : SMet X.K C mc m q f) (hk : PySem.W.keepIn X.K (.ref f) = true) (Fn : FnOk X.prog X.w X.K X.mg X.base CX k f fd ps sp) (hr : Room k X.A) (hb : Binds X.K fd ps []) (hx : ∀ σ, PassesAt CX X σ (E σ)) (ha : PA X (e :: es) t)
    (hst : starEach (e :: es) X.env = (false, eval e X.env) :: starEach es X.env := by rfl) (hpl : (backTo pos (starEach es X.env)).any (·.1) = false := by rfl)
    (ht : CallsM X o m apos pos pl (e :: es) := by rfl) : PE X (.Call (.Attribute o m apos) (e :: es) [] pos) (tSM C sp [] E ta t) where
  run pn s σ G0 Q I h := by
    refine PySem.W.methodCall_KW (pl := pl) (thn (he.run pn s σ G0 _ I h) ?_) ht
    rintro u s1 ⟨y, G1, I1, ry, ey, z⟩
    subst ey
    obtain rfl : u = Value.ref C := ry
    refine sm_here I1 r c fun s2 I2 => ?_
    refine PySem.W.callWith_K (h₀ := X.base) (first := []) I2.ok.mod.kin hk (thn (ha.run pos pn s2 σ G1 _ I2 z) ?_) hst hpl
    rintro us s3 ⟨vs, G2, I3, rv, z3⟩
    refine ⟨I3.kIn, run_fnS Fn hr hb (hx σ) I3 rv ?_⟩
    rw [List.append_nil] at z3
    exact z3
theorem pass_all {E1 : XK} (h : Passes CX X E1) : ∀ σ, PassesAt CX X σ E1 := fun σ pins H s0 e s1 I z => h pins σ H s0 e s1 I z
section
theorem pp_sm (c : Cl) (he : PE X o (tC (.ref (ct.ad c)))) (r : ClX.CRead X.K (ct.ad c) mc) (sm : SMet X.K (ct.ad c) mc m q f) (hk : PySem.W.keepIn X.K (.ref f) = true) (Fn : FnOk X.prog X.w X.K X.mg X.base CX k f fd ps (spP K ct.ad n G)) (hr : Room k X.A) (hb : Binds X.K fd ps []) (hx : Passes CX X E0) (ha : PA X (e :: es) (TAr K ct W (evAs as)))
    (hst : starEach (e :: es) X.env = (false, eval e X.env) :: starEach es X.env := by rfl) (hpl : (backTo pos (starEach es X.env)).any (·.1) = false := by rfl)
    {pl : Sem Bool} (ht : CallsM X o m apos pos pl (e :: es) := by rfl) : PE X (.Call (.Attribute o m apos) (e :: es) [] pos) (TP K ct W (evCall0 n G as)) := (pe_sm he r sm hk Fn hr hb (pass_all hx) ha hst hpl ht).imp fun σ H Q h => by
  obtain ⟨fr, F, ρ, S, h⟩ := h
  refine ⟨rfl, ?_⟩
  refine Tat.bnd h S fun F1 H1 ρ1 vs ar s1 S1 r1 h => ?_
  rw [List.append_nil]
  rw [List.map_nil, List.append_nil] at h
  exact Tat.call (W := fun _ _ _ _ => False) h.noEr S1 r1 fun _ _ _ z => z
theorem pp_smS (c : Cl) (he : PE X o (tC (.ref (ct.ad c)))) (r : ClX.CRead X.K (ct.ad c) mc) (sm : SMet X.K (ct.ad c) mc m q f) (hk : PySem.W.keepIn X.K (.ref f) = true) (Fn : FnOk X.prog X.w X.K X.mg X.base (L2.CX X.prog X.w) k f fd ps (spP K ct.ad n G)) (tk : Takes X W) (hr : Room k X.A) (hb : Binds X.K fd ps []) (ha : PA X (e :: es) (TAr K ct W (evAs as)))
    (hst : starEach (e :: es) X.env = (false, eval e X.env) :: starEach es X.env := by rfl) (hpl : (backTo pos (starEach es X.env)).any (·.1) = false := by rfl)
    {pl : Sem Bool} (ht : CallsM X o m apos pos pl (e :: es) := by rfl) : PE X (.Call (.Attribute o m apos) (e :: es) [] pos) (TP K ct W (evCall n G as)) := (pe_sm he r sm hk Fn hr hb (fun σ => passAt tk σ) ha hst hpl ht).imp fun σ H Q h => by
  obtain ⟨fr, F, ρ, S, h⟩ := h
  refine ⟨rfl, ?_⟩
  refine Tat.bnd h S fun F1 H1 ρ1 vs ar s1 S1 r1 h => ?_
  rw [List.append_nil]
  rw [List.map_nil, List.append_nil] at h
  exact Tat.call h S1 r1 fun _ _ _ z => z
end
/-- cls(..): the class that slot i holds -/
def evMkL (i n : Nat) (G : Fn) (c : Cl) (as : List AE) : Ev := fun ρ => match ρ[i]? with
  | some (.dat (.cl c')) => if c' = c then evMk n G c as [] ρ else none
  | _ => none
end
end PL
end
section
namespace PL
open PySem PySem.Spec PyProof.Rows L2
variable {K : PySem.W.Frag} {ad : Cl → Addr} {ct : CT}
variable {fr : Fr} {F F' H H' : Hp} {σ : L2.St} {ρ : List Sl} {W : WX}
/-! ### max and min with the default None -/
def bestN (f : Int → Int → Int) : List Int → V
  | [] => .non
  | n :: ns => .int (ns.foldl f n)
def wBestN (f : Int → Int → Int) (K : PySem.W.Frag) : List V → List V → Hp → VK → Prop := fun vs zs H Q => ∃ (a : Addr) (ns : List Int), vs = [.ref a] ∧ zs = [.non] ∧ SqL K H a (ns.map V.int) ∧ Q (bestN f ns) H
section
variable {X : Cx}
end
def bestD (f : Int → Int → Int) : List Int → D
  | [] => .non
  | n :: ns => .int (ns.foldl f n)
def gBestN (f : Int → Int → Int) : List D → Option D | [d] => (lints d).map (bestD f) | _ => none
def evBestN (f : Int → Int → Int) (es : List DE) : Ev := bnd (evDs es) fun ds => opt ((gBestN f ds).map Rv.d)
/-! ### x in xs, both data -/
def rInD (K : PySem.W.Frag) (neg : Bool) : R2 := fun x y H Q => ∃ (d : PyData) (xs : List PyData), Dp K H x d ∧ (Dp K H y (.list xs) ∨ Dp K H y (.tuple xs)) ∧ PyData.plainAll xs = true ∧ d.plain = true ∧ d.depth ≤ 60 ∧ Q (.bl (if neg then !(xs.any fun z => PyData.eqv z d) else xs.any fun z => PyData.eqv z d)) H
def D.its : PyData → Option (List PyData) | .list xs => some xs | .tuple xs => some xs | _ => none
def dInDB (d e : D) : Option Bool := match d.py, e.py.bind D.its with
  | some p, some xs => if PyData.plainAll xs && p.plain && decide (p.depth ≤ 60) then some (xs.any fun z => PyData.eqv z p) else none
  | _, _ => none
def dInD (d e : D) : Option D := (dInDB d e).map .bl
def dNotInD (d e : D) : Option D := (dInDB d e).map fun b => .bl (!b)
/-! ### text * n -/
def repS (x : Str) (n : Nat) : Str := ⟨(List.replicate n x.cps).foldl (· ++ ·) #[]⟩
theorem rep_size (a : Array Nat) : ∀ (k : Nat) (b : Array Nat), ((List.replicate k a).foldl (· ++ ·) b).size = b.size + a.size * k
  | 0, b => rfl
  | k + 1, b => by
    rw [List.replicate_succ, List.foldl_cons, rep_size a k, Array.size_append, Nat.mul_succ]
    omega
theorem repS_len (t : Str) (n : Nat) : (repS t n).length = t.length * n := by
  show ((List.replicate n t.cps).foldl (· ++ ·) #[]).size = t.cps.size * n
  rw [rep_size]
  simp
def rMulS : R2 := fun x y H Q => ∃ (t : Str) (n : Int), x = .str t ∧ y = .int n ∧ -(2 ^ 63) ≤ n ∧ n < 2 ^ 63 ∧ t.length * n.toNat ≤ 16777216 ∧ Q (.str (repS t n.toNat)) H
theorem op_mulS {X : Cx} : OpR X (binaryOp .Mult) rMulS := by
  rintro pins s σ H x y v u Q I rx ry ⟨t, n, rfl, rfl, h1, h2, h3, q⟩
  obtain ⟨tk, rfl⟩ := rx
  obtain ⟨tk2, rfl⟩ := ry
  refine PySem.P.mul_str ?_ ?_ ?_ ?_
  · rw [decide_eq_false (by omega), decide_eq_false (by omega)]; rfl
  · intro a _
    have : (t.length : Int) ≤ (2 ^ 63 - 1) / n := by
      refine (Int.le_ediv_iff_mul_le (by omega)).mpr ?_
      have e : ((t.length * n.toNat : Nat) : Int) = (t.length : Int) * n := by rw [Int.natCast_mul, Int.toNat_of_nonneg (by omega)]
      omega
    omega
  · intro _ _
    exact decide_eq_false (by show ¬ t.length * n.toNat > 2 ^ 24; omega)
  · split
    · rename_i a
      have e : repS t n.toNat = Str.empty := by
        rw [show n.toNat = 0 by omega]; rfl
      rw [e] at q
      exact ⟨by decide, ⟨.str _, H, I.tok _, ⟨_, rfl⟩, q⟩⟩
    · split
      · rename_i a b
        have e : repS t n.toNat = t := by
          rw [Bool.or_eq_true] at b
          rcases b with b | b
          · have : n = 1 := by simpa using b
            subst this
            show (⟨#[] ++ t.cps⟩ : Str) = t
            simp
          · have z : t.cps = #[] := by
              have : t.length = 0 := by simpa using b
              exact Array.eq_empty_of_size_eq_zero this
            have : ∀ k, (List.replicate k t.cps).foldl (· ++ ·) #[] = #[] := fun k => by
              rw [z]
              induction k with
              | zero => rfl
              | succ k ih => rw [List.replicate_succ, List.foldl_cons]; exact ih
            unfold repS
            rw [this, ← z]
        rw [e] at q
        exact ⟨.str _, H, I, ⟨_, rfl⟩, q⟩
      · refine ⟨?_, ⟨.str _, H, I.tok _, ⟨_, rfl⟩, q⟩⟩
        show (repS t n.toNat).length ≤ 2 ^ 24
        rw [repS_len]
        omega
def dMulS : D → D → Option D
  | .str t, .int n => if -(2 ^ 63) ≤ n ∧ n < 2 ^ 63 ∧ t.length * n.toNat ≤ 16777216 then some (.str (repS t n.toNat)) else none
  | _, _ => none
theorem o_mulS : O2 K ct.ad rMulS dMulS := by
  intro F H x y d e z Q s r1 r2 h q
  cases d <;> cases e <;> try cases h
  rename_i t n
  cases r1; cases r2
  have h : (if -(2 ^ 63) ≤ n ∧ n < 2 ^ 63 ∧ t.length * n.toNat ≤ 16777216 then some (D.str (repS t n.toNat)) else none) = some z := h
  split at h
  · rename_i c
    cases h
    exact ⟨t, n, rfl, rfl, c.1, c.2.1, c.2.2, q _ (Rp.str _)⟩
  · cases h
end PL
end
section
namespace PL
open PySem PySem.Spec PyProof.Rows L2
/-! ### several clauses, each with a name -/
abbrev Cla := Value × Nat × (Addr → Value → Option Addr → TS)
/-- behind a suite its name is gone -/
def Ends.gone (D : Ends) (i : Nat) : Ends := { nx := fun z G => D.nx (z.set i none) G, rt := D.rt, bk := fun z G => D.bk (z.set i none) G, ct := fun z G => D.ct (z.set i none) G }
/-- what the clauses want of an exception, in their order -/
def wCl (K : PySem.W.Frag) (W0 : WX) (D : Ends) : List Cla → WX
  | [] => W0
  | cl :: r => fun C d z G => ∃ t, PySem.W.exmOne K C cl.1 = some t ∧
    if t = true then ∀ q, G q = none → cl.2.2 q C d (Ends.gone D cl.2.1) (z.set cl.2.1 (some (.ref q))) G else wCl K W0 D r C d z G
inductive Clauses (X : Cx) : List ExceptHandler → List Cla → Prop
  | nil : Clauses X [] []
  | cons {x n : Str} {C : Value} {i : Nat} {ts : Addr → Value → Option Addr → TS} {b0 : Stmt} {bs : List Stmt} {p1 p2 : Pos} {hds : List ExceptHandler} {l : List Cla} (hN : X.N[i]? = some n) (hl : X.env.kindOf n = some .local) (hC : Names X x C)
      (run : ∀ (q : Addr) (o : Obj) (Z : Value) (d : Option Addr) (pn : List (Addr × Obj)), Zc Z d o → (∃ ws, o.data = .fields ws) → PSs (X.suite q ((q, o) :: pn)) (b0 :: bs) (ts q Z d)) (r : Clauses X hds l) :
      Clauses X (.ExceptHandler (some (.Name x p1)) (some n) (b0 :: bs) p2 :: hds) ((C, i, ts) :: l)
section
variable {X : Cx} {body : List Stmt} {hds : List ExceptHandler} {h0 : ExceptHandler} {l : List Cla} {pos : Pos} {tb : WX → TS} {W0 : WX}
end
variable {K : PySem.W.Frag} {ct : CT} {fr : Fr} {F H : Hp} {σ : L2.St} {ρ : List Sl} {W : WX}
abbrev Clp := Nat × List (Cl × Bool) × M Fl
/-- the first clause that takes it -/
def pick : List Clp → Cl → Option D → M Fl
  | [], c, pl => fun ρ => some (.er c pl, ρ)
  | x :: r, c, pl => fun ρ => match x.2.1.lookup c with
    | some true => suiteA x.1 c pl x.2.2 ρ
    | some false => pick r c pl ρ
    | none => none
def evTryM (body : M Fl) (cs : List Clp) : M Fl := fun ρ => match body ρ with
  | some (.er c pl, ρ1) => pick cs c pl ρ1
  | r => r
theorem Sat.suiteA {i : Nat} {c : Cl} {pl : Option D} {d : Option Addr} {s : M Fl} {En : Ends} (h : Sat K ct W En fr F ρ (PL.suiteA i c pl s)) (S : Rel K ct fr F H σ ρ) (pr : PlR K ct.ad F c pl d) (a : Addr) : TSt K (ct.su a (.ref (ct.ad c)) d) WF s (Ends.gone En i) (σ.set i (some (.ref a))) H := by
  obtain ⟨r, ρ', e, q⟩ := h
  unfold PL.suiteA at e
  split at e
  · rename_i n1
    split at e
    · cases e
    · rename_i sl hn hsl
      have np := S.npar hsl hn
      split at e
      · rename_i f ρs es
        split at e
        · rename_i n2
          cases e
          have S3 : Rel K (ct.su a (.ref (ct.ad c)) d) fr F H σ ρ := S.ek rfl n1
          refine ⟨fr, F, _, S3.setX rfl pr np, .ok f, _, es, ?_⟩
          cases f with
          | nx => exact fun σ2 F2 H2 s2 S2 => q _ F2 H2 s2 ((S2.setU np).ek rfl n2)
          | bk => exact fun σ2 F2 H2 s2 S2 => q _ F2 H2 s2 ((S2.setU np).ek rfl n2)
          | ct => exact fun σ2 F2 H2 s2 S2 => q _ F2 H2 s2 ((S2.setU np).ek rfl n2)
          | rt x =>
            intro σ2 v F2 H2 s2 S2 rv
            refine q σ2 v F2 H2 s2 ((S2.unR np).ek rfl n2) ?_
            cases x with
            | d d => exact rv
            | c c =>
              obtain ⟨p, ev, f1, f2, f3, f4, f5⟩ := rv
              refine ⟨p, ev, f1, f2, f3, f4, fun j k c' z1 z2 => ?_⟩
              by_cases w : i = j
              · subst w
                rw [List.getElem?_set] at z1
                split at z1
                · split at z1 <;> cases z1
                · rename_i w; exact absurd rfl w
              · rw [List.getElem?_set_ne w] at z1; exact f5 j k c' z1 z2
        · cases e
      · cases e
    · cases e
  · cases e
variable (K ct) in
inductive PRel : List Clp → List Cla → Prop
  | nil : PRel [] []
  | cons {i : Nat} {cv : Value} {cat : List (Cl × Bool)} {s : M Fl} {cs : List Clp} {l : List Cla} (C : CatOk K ct.ad cv cat) (r : PRel cs l) : PRel ((i, cat, s) :: cs) ((cv, i, fun a Z d => TSt K (ct.su a Z d) WF s) :: l)
section
variable {X : Cx} {body : List Stmt} {hds : List ExceptHandler} {h0 : ExceptHandler} {pos : Pos} {mb : M Fl} {cs : List Clp}
variable (K ct) in
/-- the clauses of a text, and what they are -/
structure ClsOk (X : Cx) (hds : List ExceptHandler) (cs : List Clp) : Prop where
  both : ∃ l, Clauses X hds l ∧ PRel K ct cs l
theorem ClsOk.nil : ClsOk K ct X [] [] := ⟨[], .nil, .nil⟩
theorem ClsOk.cons {x n : Str} {cv : Value} {i : Nat} {b0 : Stmt} {bs : List Stmt} {p1 p2 : Pos} {cat : List (Cl × Bool)} {s : M Fl} (hN : X.N[i]? = some n) (hl : X.env.kindOf n = some .local) (hC : Names X x cv) (C : CatOk K ct.ad cv cat)
    (run : ∀ (q : Addr) (o : Obj) (Z : Value) (d : Option Addr) (pn : List (Addr × Obj)), Zc Z d o → (∃ ws, o.data = .fields ws) → PSs (X.suite q ((q, o) :: pn)) (b0 :: bs) (TSt K (ct.su q Z d) WF s)) (r : ClsOk K ct X hds cs) :
    ClsOk K ct X (.ExceptHandler (some (.Name x p1)) (some n) (b0 :: bs) p2 :: hds) ((i, cat, s) :: cs) := by
  obtain ⟨l, h1, h2⟩ := r.both
  exact ⟨_, .cons hN hl hC run h1, .cons C h2⟩
end
end PL
end
section
namespace PL
open PySem PySem.Spec PyProof.Rows L2
variable {K : PySem.W.Frag} {ct : CT} {fr : Fr} {F H : Hp} {σ : L2.St} {ρ : List Sl} {W : WX}
/-! ### [e for x in xs for y in ys] -/
def lcGo2 (vs : List Nat) (tg : Tg) (c : M Bool) (it : M (List D)) (vs1 : List Nat) (tg1 : Tg) (c1 : M Bool) (e : Ev) : List D → List D → M (List D)
  | [], acc => pur acc
  | x :: xs, acc => fun ρ => match asgT tg x ρ with
    | some (.ok .nx, ρ1) => bnd (noEr c) (fun b => if b then bnd (noEr it) (fun ys => bnd (fun ρ => lcGo vs1 tg1 c1 e ys acc (wipeR ρ vs1)) fun acc' => fun ρ => lcGo2 vs tg c it vs1 tg1 c1 e xs acc' (wipeR ρ vs)) else fun ρ => lcGo2 vs tg c it vs1 tg1 c1 e xs acc (wipeR ρ vs)) ρ1
    | _ => none
def evLc2 (vs : List Nat) (it : M (List D)) (tg : Tg) (c : M Bool) (it1 : M (List D)) (vs1 : List Nat) (tg1 : Tg) (c1 : M Bool) (e : Ev) : Ev := bnd it fun xs => lcRun vs (lcGo2 vs tg c it1 vs1 tg1 c1 e) xs
section
variable {X : Cx}
end
end PL
end
section
namespace PL
open PySem PySem.Spec PyProof.Rows L2
variable {K : PySem.W.Frag} {ad : Cl → Addr} {ct : CT} {fr : Fr} {F H : Hp} {σ : L2.St} {ρ : List Sl} {W : WX}
/-! ### defs with a star parameter -/
variable (K ad) in
/-- n values, the others in a new tuple -/
def spV (n : Nat) (G : Fn) : Sp := fun vs H Q E => ∃ ws rest, vs = ws ++ rest ∧ ws.length = n ∧ rest.length ≤ sizeLine ∧ ∀ p, H p = none → spP K ad (n + 1) G (ws ++ [V.ref p]) (upd H p (.tup rest)) Q E
/-- how such a def binds -/
def BindsV (x qual : Str) (st : Stmt) (ps : List Str) (pv : Str) : Prop := ∀ (kV doc pm : Value) (an : Option Addr) (cdv ctv : Value) (us rest : List Value), us.length = ps.length →
  bindArgs (PySem.W.fnOf x qual (defArgs st) (defBody st) (defScope st) .none kV doc pm an cdv ctv) ⟨us ++ rest, []⟩ = (newTuple rest >>= fun t => pure (ps.zip us ++ [(pv, t)]))
def Ar.data : Ar → Option D | .d z => some z | .c _ => none
def datas : List Ar → Option (List D)
  | [] => some []
  | a :: as => match a.data, datas as with | some d, some ds => some (d :: ds) | _, _ => none
theorem RAs.datas {F : Hp} {σ : L2.St} : ∀ {vs : List V} {as : List Ar} {ds : List D}, RAs K ct.ad F σ vs as → PL.datas as = some ds → Rps K ct.ad F vs ds
  | _, [], _, .nil, h => by cases h; exact .nil
  | _, a :: as, ds, .cons h r, e => by
    unfold PL.datas at e
    cases ea : a.data with
    | none => rw [ea] at e; cases e
    | some d =>
      cases eb : PL.datas as with
      | none => rw [ea, eb] at e; cases e
      | some ds' =>
        rw [ea, eb] at e
        cases e
        cases a with
        | d d' => cases ea; exact .cons h (RAs.datas r eb)
        | c j => cases ea
theorem Rps.takeDrop {F : Hp} : ∀ {n : Nat} {vs : List V} {ds : List D}, Rps K ct.ad F vs ds → Rps K ct.ad F (vs.take n) (ds.take n) ∧ Rps K ct.ad F (vs.drop n) (ds.drop n)
  | 0, _, _, h => ⟨.nil, h⟩
  | n + 1, _, _, .nil => ⟨.nil, .nil⟩
  | n + 1, _, _, .cons h r => let ⟨a, b⟩ := Rps.takeDrop (n := n) r; ⟨.cons h a, b⟩
/-- what the call comes to -/
def callV (n : Nat) (G : Fn) (ds : List D) : Ev := if n ≤ ds.length ∧ ds.length ≤ 1000000 then callG (n + 1) G ((ds.take n).map .d ++ [.d (.tup (ds.drop n))]) else fai
theorem RAs.ofRps {F : Hp} {σ : L2.St} : ∀ {vs : List V} {ds : List D}, Rps K ct.ad F vs ds → RAs K ct.ad F σ vs (ds.map .d)
  | _, _, .nil => .nil
  | _, _, .cons h r => .cons h (RAs.ofRps r)
theorem RAs.app {F : Hp} {σ : L2.St} : ∀ {vs ws : List V} {as bs : List Ar}, RAs K ct.ad F σ vs as → RAs K ct.ad F σ ws bs → RAs K ct.ad F σ (vs ++ ws) (as ++ bs)
  | _, _, _, _, .nil, h => h
  | _, _, _, _, .cons h r, k => .cons h (RAs.app r k)
theorem Tat.callV {n : Nat} {G : Fn} {vs : List V} {ds : List D} {Q : VK} {E : XK} (h : Tat K ct (RV K ct.ad) W fr F ρ (PL.callV n G ds) σ Q) (S : Rel K ct fr F H σ ρ) (r : Rps K ct.ad F vs ds) (hE : ∀ cls d H', W cls d σ H' → E cls d H') : spV K ct.ad n G vs H Q E := by
  unfold PL.callV at h
  by_cases c : n ≤ ds.length ∧ ds.length ≤ 1000000
  · rw [if_pos c] at h
    have l := Rps.len r
    refine ⟨vs.take n, vs.drop n, (List.take_append_drop n vs).symm, by rw [List.length_take]; omega, by rw [List.length_drop]; show _ ≤ 2 ^ 24; omega, fun p hp => ?_⟩
    have up := same_up (S.nn hp) (o := .tup (vs.drop n))
    obtain ⟨ra, rb⟩ := r.takeDrop (n := n)
    refine Tat.call (ar := (ds.take n).map .d ++ [.d (.tup (ds.drop n))]) (F := upd F p (.tup (vs.drop n))) ?_ (S.newD hp) ?_ hE
    · obtain ⟨r0, ρ0, e, q⟩ := h
      refine ⟨r0, ρ0, e, ?_⟩
      cases r0 with
      | ok a => exact fun v F' H' s' S' rr => q v F' H' (up.trans s') S' rr
      | er c pl => exact fun d F' H' s' S' rr => q d F' H' (up.trans s') S' rr
    · exact RAs.app (RAs.ofRps (ra.mono up)) (.cons (show RA1 K ct.ad _ σ (V.ref p) (.d (.tup (ds.drop n))) from Rp.tup (SqT.of upd_same) (rb.mono up)) .nil)
  · rw [if_neg c] at h
    obtain ⟨_, _, e, _⟩ := h; cases e
/-! is, is not between truth values -/
def dIsB : D → D → Option D | .bl a, .bl true => some (.bl a) | .bl a, .bl false => some (.bl (!a)) | _, _ => none
def dNotB : D → D → Option D | .bl a, .bl true => some (.bl (!a)) | .bl a, .bl false => some (.bl a) | _, _ => none
def rIsB : R2 := fun x y H Q => ∃ a b, x = .bl a ∧ y = .bl b ∧ Q (.bl (decide (a = b))) H
def rNotB : R2 := fun x y H Q => ∃ a b, x = .bl a ∧ y = .bl b ∧ Q (.bl (!decide (a = b))) H
def evCallV (n : Nat) (G : Fn) (as : List AE) : Ev := bnd (evAs as) fun ar => bnd (opt (datas ar)) fun ds => callV n G ds
def evCallV0 (n : Nat) (G : Fn) (as : List AE) : Ev := bnd (evAs as) fun ar => bnd (opt (datas ar)) fun ds => noEr (callV n G ds)
/-- f(*xs) -/
def evCallVS (n : Nat) (G : Fn) (m : Ev) : Ev := bnd (dat m) fun d => bnd (opt d.items) fun ds => callV n G ds
section
variable {X : Cx} {CX : CXT} {k : Nat} {f : Addr} {x : Str} {p pos sp_ : Pos} {e : Expr} {es : List Expr} {n : Nat} {G : Fn} {as : List AE} {m : Ev} {sp : Sp} {E : L2.St → XK} {t : TA} {te : TE}
end
end PL
end
section
/-! enumerate over a tuple -/
namespace OW
open PySem PySem.Spec PyProof.Rows L2
set_option maxHeartbeats 1200000 in
theorem enum1_new {v : Value} {o : Obj} {H : Heap → Prop} (B : Begins v o H) :
    Meets (Builtin.«enumerate.__new__» ⟨[.type "enumerate", v], []⟩) (fun _ R s => H s.heap ∧
      R (.ok (.ret (.ref (s.heap.push o).objs.size))) { s with heap := (s.heap.push o).push { cls := .type "enumerate", data := .fields #[.none, .bool false, .ref s.heap.objs.size, rawInt 0, .none, .none] } }) := .of_wp fun prog w A R s h => by
  obtain ⟨hp, gs, dd, tk, ost⟩ := s
  obtain ⟨h1, h⟩ := h
  have su := sub_enumerate
  have bi : ∀ {A' : Around} {E : Value → Shared → Prop} {Q : Value → Shared → Prop}, Q (.ref hp.objs.size) ⟨hp.push o, gs, dd, tk, ost⟩ → wpAny (model prog w) A' (pyIter v) Q E ⟨hp, gs, dd, tk, ost⟩ := fun q => B.iter prog w _ _ ⟨hp, gs, dd, tk, ost⟩ _ h1 q
  wp_walk using bi
  refine (wpAny_stack_any fun st => wpAny_pure ?_)
  split
  · rename_i c _ _ _ _ _
    rcases (c == Value.type "enumerate") with _ | _
    · wp_walk using bi
      exact ⟨_, rfl, h⟩
    · wp_walk using bi
      exact ⟨_, rfl, h⟩
  · wp_walk using bi
    exact ⟨_, rfl, h⟩
theorem enum1_call {prog : Program} {w : World} {A : Around} {E : Value → Shared → Prop} {s : Shared} {v : Value} {o : Obj} {H : Heap → Prop} {Q : Value → Shared → Prop} (B : Begins v o H) (h1 : H s.heap)
    (h : ∀ h', IsEnum h' (s.heap.objs.size + 1) s.heap.objs.size 0 .none → h'.get? s.heap.objs.size = some o → h'.objs.size = s.heap.objs.size + 2 → (∀ b ob, s.heap.get? b = some ob → h'.get? b = some ob) → Q (.ref (s.heap.objs.size + 1)) { s with heap := h' }) :
    wpAny (model prog w) A (call (.type "enumerate") [v]) Q E s := by
  refine callType_new F.called_enumerate (by decide) (F.typeCall_enumerate_1 _) (F.newCall_enumerate_1 _) (fun ob => F.args_object_init_2 ob _) F.entry_enumerate_new (enum1_new B) ⟨h1, ?_⟩
  have z : (s.heap.push o).objs.size = s.heap.objs.size + 1 := Heap.size_push ..
  show _ ∧ _
  rw [z]
  have e := Heap.get?_push_size (s.heap.push o) (o := { cls := .type "enumerate", data := .fields #[.none, .bool false, .ref s.heap.objs.size, rawInt 0, .none, .none] }) rfl
  rw [z] at e
  exact ⟨⟨_, e, rfl⟩, h _ e (Heap.get?_push_of_some _ (Heap.get?_push_size _ B.free)) (by rw [Heap.size_push, z]) fun b ob x => Heap.get?_push_of_some _ (Heap.get?_push_of_some _ x)⟩
theorem enumT_end {prog : Program} {w : World} {A : Around} {E : Value → Shared → Prop} {s : Shared} {e it l : Addr} {i : Nat} {c : Int} {items : Array Value} {old : Value} {Q : Option Value → Shared → Prop} (hh : A.handled = none)
    (he : IsEnum s.heap e it c old) (hit : s.heap.IsTupleIter it l i) (hl : s.heap.IsTuple l items) (hx : items[i]? = none) (hQ : ∀ h', Heap.ExtBut it s.heap h' → Q none { s with heap := h' }) : wpAny (model prog w) A (pyNext (.ref e)) Q E s := by
  have ty : s.TypeIs (.ref e) "enumerate" := ⟨_, he, rfl⟩
  unfold pyNext
  refine wpAny_bind (wpAny_attempt (wpAny_callSpecial?_slot (name := Str.ofString "__next__") ty F.slot_enumerate_next (wpAny_call_entry F.slot_enumerate_next ty F.entry_enumerate_next ?_ (F.args_enumerate_next_1 _))))
  show (wpAny _ _ (field (.ref e) 2 >>= _) _ _ _)
  refine wpAny_bind (wpAny_field he rfl (x := .ref it) rfl (wpAny_bind ?_))
  refine wpAny_nextOf_tuple_end hh hit hl hx fun h' x z zx => ?_
  obtain ⟨ob, ho, hc⟩ := zx
  exact wpAny_bind (wpAny_isInstance (T := "StopIteration") (b := true) ⟨ob, ho, hc⟩ isSubtype_stop (wpAny_pure (hQ _ z)))
/-- the tuple at a, each item in a new pair with its place -/
def ItE (K : PySem.W.Frag) (a : Addr) : It :=
  ⟨fun i H => ∃ (xs : List V) (x : V), SqT K H a xs ∧ xs[i]? = some x, fun i H v H' => ∃ T x, v = .ref T ∧ H T = none ∧ H' = upd H T (.tup [.int (i : Nat), x]) ∧ ∀ xs, SqT K H a xs → xs[i]? = some x, fun i H => ∃ xs : List V, SqT K H a xs ∧ xs.length ≤ i⟩
theorem turn_enumT {P : Program} {w : World} {K : PySem.W.Frag} {elts : List Expr} {kk : Nat} {tpos : Pos} (a e it : Addr) :
    Turn P w K (.Tuple elts kk tpos) (ItE K a) [e, it] e (fun i h => (∃ old, IsEnum h e it ((i : Nat) : Int) old) ∧ h.IsTupleIter it a i ∧ e ≠ it ∧ a ≠ it ∧ a ≠ e) where
  mem := by simp
  obj := fun n hp0 z0 b mb => by
    obtain ⟨⟨v0, ie⟩, ⟨ob, g1, g2, g3⟩, _⟩ := z0
    rcases (show b = e ∨ b = it by simpa using mb) with rfl | rfl
    · exact ⟨_, ie, fun v z => nomatch z⟩
    · exact ⟨ob, g1, fun v z => by rw [g3] at z; cases z⟩
  keep := fun n hp0 hp1 z0 kp => by
    obtain ⟨⟨v0, ie⟩, ti, ap⟩ := z0
    exact ⟨⟨v0, kp e (by simp) _ ie⟩, ti.at fun ob z => kp it (by simp) ob z, ap⟩
  item := by
    intro X eP ew eK cm i pn s σ H E I hf z0 hg
    subst eP ew eK
    obtain ⟨⟨v0, he⟩, hit, ne1, ne2, ne3⟩ := z0
    obtain ⟨xs, x, hq, hx⟩ := hg
    obtain ⟨its, rv, p, _⟩ := (I.tuple hq)
    obtain ⟨u, hu, ru⟩ := (rv.get hx)
    have le1 : e < s.heap.objs.size := Heap.lt_size he
    have le2 : it < s.heap.objs.size := by obtain ⟨_, q, _⟩ := hit; exact Heap.lt_size q
    have p : s.heap.IsTuple a its.toArray := p
    have D := Draws.tuple (prog := X.prog) (w := X.w) (A := X.A.in1) (I.ok.hd cm) it a ne2 its.toArray
    refine wpAny_pyNext_enum_itemD D he ⟨hit, p⟩ (by simpa using (List.getElem?_eq_some_iff.mp hu).1) ne1 (by simp [ne1, Ne.symm ne3]) fun y h' tk hy ho ⟨hit', _⟩ hT hs hk => ?_
    have ey : y = u := by
      have hy : its.toArray[i]? = some y := hy
      rw [show its.toArray[i]? = some u by simpa using hu] at hy
      exact (Option.some.inj hy).symm
    subst ey
    refine ⟨_, rfl, wpAny_letOwnedTupleGo_enum (s := { s with heap := h', toks := tk + 1 }) ho fun h2 he2 sb => ?_⟩
    have hT2 : h2.get? s.heap.objs.size = some { cls := .type "tuple", data := .seq #[.int i tk, y] } := (sb.2 _ (Nat.ne_of_gt le1)).trans hT
    have new : ObjOk X.prog X.w (upd H s.heap.objs.size (.tup [.int (i : Nat), x])) h2 s.heap.objs.size (.tup [.int (i : Nat), x]) :=
      ⟨by show 2 ≤ sizeLine; decide, [.int i tk, y], .cons ⟨_, rfl⟩ (.cons ru .nil), ⟨_, hT2, rfl, _, rfl⟩⟩
    have I1 : Inv X pn σ (upd H s.heap.objs.size (.tup [.int (i : Nat), x])) { s with heap := h2, toks := tk + 1 } :=
      I.turnedNew (ch := [e, it]) (fun b ob nb q => by
        have n1 : b ≠ e := fun z => nb (by simp [z])
        exact (sb.2 b n1).trans (hk b ob n1 (fun z => nb (by simp [z])) q)) hf (Nat.le_refl _) new
    refine ⟨.ref s.heap.objs.size, _, I1, rfl, ⟨_, x, rfl, I.hok.fresh (Nat.le_refl _), rfl, fun ys hy => by rw [I.tuple_inj hy hq]; exact hx⟩, ⟨⟨y, ?_⟩, hit'.at fun o q => (sb.2 it (Ne.symm ne1)).trans q, ne1, ne2, ne3⟩, fun b hb => ?_⟩
    · rw [show ((i + 1 : Nat) : Int) = (i : Int) + 1 by omega]
      exact he2
    · have lb : b < s.heap.objs.size := by
        rcases (show b = e ∨ b = it by simpa using hb) with z | z
        · rw [z]; exact le1
        · rw [z]; exact le2
      rw [upd_ne (Nat.ne_of_lt lb)]
      exact (hf b hb).1
  done := by
    intro X eP ew eK cm i pn s σ H E I hf z0 hg
    subst eP ew eK
    obtain ⟨⟨v0, he⟩, hit, ne1, ne2, ne3⟩ := z0
    obtain ⟨xs, hq, hx⟩ := hg
    obtain ⟨its, rv, p, _⟩ := (I.tuple hq)
    obtain ⟨f0, f1, _, f3, f4, f5⟩ := (hf it (by simp))
    have hl := rv.length
    have p : s.heap.IsTuple a its.toArray := p
    exact enumT_end (I.ok.hd cm) he hit p (by simp; omega) fun h' eb => ⟨rfl, I.turned (t' := s.toks) (fun b o hb q => eb b o hb q) f0 f1 f3 f4 f5⟩
  self := fun _ _ _ _ _ z0 kk => wpAny_pyIter_enum z0.1.choose_spec kk
def iEnumT (K : PySem.W.Frag) (ta : TA) : TI := fun σ H R => ta σ H fun vs H1 => ∃ a xs, vs = [.ref a] ∧ SqT K H1 a xs ∧ R (ItE K a) H1
theorem pi_enumT {X : Cx} {e : Expr} {ta : TA} {p pos tpos : Pos} {elts : List Expr} {kk : Nat} (hg : Gl X "enumerate") (hm : X.mg "enumerate" = none) (ha : PA X [e] ta) (hs : starEach [e] X.env = [(false, eval e X.env)] := by rfl) :
    PI X (.Tuple elts kk tpos) (.Call (.Name "enumerate" p) [e] [] pos) (iEnumT X.K ta) := by
  refine ⟨fun pn s σ H R I h => ?_⟩
  have arg := ha.run pos pn s σ H _ I h
  refine Call_ (ld_blt I hg hm boot_enumerate (PyProof.Rows.callWith_type1 (thn arg fun us s1 ⟨vs, H1, I1, r1, q1⟩ => ?_) hs rfl))
  obtain ⟨a, xs, rfl, hq, q⟩ := q1
  cases r1 with
  | cons r rr =>
    cases rr
    cases r
    obtain ⟨its, rv, p', _⟩ := (I1.tuple hq)
    have p' : s1.heap.IsTuple a its.toArray := p'
    have la : a < s1.heap.objs.size := by obtain ⟨_, z, _⟩ := p'; exact Heap.lt_size z
    refine enum1_call (begins_tuple a its.toArray) p' fun h' he hit hsz hk => wpAny_pyIter_enum he ?_
    have inv : Inv X pn σ H1 { s1 with heap := h' } := (I1.kept (t' := s1.toks) hk)
    refine ⟨s1.heap.objs.size + 1, [s1.heap.objs.size + 1, s1.heap.objs.size], _, _, H1, rfl, inv, turn_enumT a (s1.heap.objs.size + 1) s1.heap.objs.size, ⟨⟨.none, he⟩, ⟨_, hit, rfl, rfl⟩, Nat.succ_ne_self _, Nat.ne_of_lt la, Nat.ne_of_lt (Nat.lt_succ_of_lt la)⟩, fun b hb => ?_, q⟩
    have lb : s1.heap.objs.size ≤ b := by
      rcases (show b = s1.heap.objs.size + 1 ∨ b = s1.heap.objs.size by simpa using hb) with z | z
      · subst z; exact (Nat.le_add_right _ _)
      · subst z; exact Nat.le_refl _
    exact I1.fpOk lb (I1.hok.fresh lb)
/-! the sum of a tuple of ints -/
def rSumT (K : PySem.W.Frag) : List V → Hp → VK → Prop := fun vs H Q => ∃ (a : Addr) (ns : List Int), vs = [V.ref a] ∧ SqT K H a (ns.map V.int) ∧ Q (.int ns.sum) H
theorem cr_sumT {X : Cx} (hc : X.calm = true) : CallR X (.builtin "sum") (rSumT X.K) := by
  intro pins s σ H vs us Q I r ⟨a, ns, e, hs, q⟩
  subst e
  obtain ⟨its, rv, p, _⟩ := I.tuple hs
  have p : s.heap.IsTuple a its.toArray := p
  rw [Vals.ref1 r]
  obtain ⟨xs, ex⟩ := rv.ints.allInts.items
  have en : numsOf (intItems xs).toList = ns := by
    rw [← ex]
    exact rv.ints.numsOf
  rw [nums_intItems] at en
  rw [ex] at p
  refine PySem.W.ktm_sumG (I.ok.hd hc) p fun h' tk t' hk => ⟨.int _, H, I.kept hk, ⟨t', ?_⟩, q⟩
  rw [preSum_eq, List.take_of_length_le (by simp), en]
end OW
namespace PL
open PySem PySem.Spec PyProof.Rows L2
variable {K : PySem.W.Frag} {ct : CT} {W : WX} {F : Hp} {X : Cx}
/-- each item with its place -/
def enumD (xs : List D) : List D := xs.zipIdx.map fun p => .tup [.int (p.2 : Int), p.1]
def itET (e : Ev) : M (List D) := bnd (dat e) fun d => match d with | .tup xs => pur (enumD xs) | _ => fai
theorem it_enumT {a : Addr} {vs : List V} {xs : List D} (h : SqT K F a vs) (r : Rps K ct.ad F vs xs) : ItOk K ct.ad F (enumD xs) (OW.ItE K a) := by
  intro F1 H1 s1 s2 i
  have h1 : SqT K H1 a vs := sameT (s1.trans s2) h
  refine ⟨fun x e => ?_, fun l => ⟨vs, h1, by unfold enumD at l; rw [List.length_map, List.length_zipIdx] at l; rw [r.len]; exact l⟩⟩
  unfold enumD at e
  rw [List.getElem?_map, List.getElem?_zipIdx] at e
  cases ed : xs[i]? with
  | none => rw [ed] at e; cases e
  | some d =>
    rw [ed] at e
    cases e
    obtain ⟨v, e1, e2⟩ := r.get ed
    refine ⟨⟨vs, v, h1, e1⟩, fun u H2 y => ?_⟩
    obtain ⟨T, z, rfl, hT, rfl, hz⟩ := y
    have hz := hz vs h1
    rw [e1] at hz
    cases hz
    have fT : F1 T = none := by
      cases q : F1 T with
      | none => rfl
      | some o => rw [s2 _ _ q] at hT; cases hT
    have up := same_up fT (o := .tup [.int (i : Nat), v])
    refine ⟨upd F1 T (.tup [.int (i : Nat), v]), ⟨up, same_up hT, ?_, fun b hb fb => ?_⟩, ?_⟩
    · intro b o q
      by_cases c : b = T
      · subst c; rw [upd_same] at q; rw [upd_same]; exact q
      · rw [upd_ne c] at q; rw [upd_ne c]; exact s2 _ _ q
    · rw [upd_ne (fun q => hb (by rw [q]; exact hT))]
      exact fb
    · exact Rp.tup (SqT.of upd_same) (.cons (by simp only [Nat.zero_add]; exact .int _) (.cons ((e2.mono s1).mono up) .nil))
theorem pi_eT {e : Expr} {elts : List Expr} {kk : Nat} {p pos tpos : Pos} {m : Ev} (eK : X.K = K) (hg : Gl X "enumerate") (hm : X.mg "enumerate" = none) (he : PE X e (TP K ct W m)) (hs : starEach [e] X.env = [(false, eval e X.env)] := by rfl) :
    PI X (.Tuple elts kk tpos) (.Call (.Name "enumerate" p) [e] [] pos) (TIt K ct W (itET m)) := by
  subst eK
  refine (OW.pi_enumT hg hm (pa_cons he pa_nil (by rw [hs]; rfl)) hs).imp fun σ H R h => ?_
  obtain ⟨fr, F, ρ, S, h⟩ := h
  refine Tat.dat h S fun F1 H1 ρ1 v d s1 S1 r1 h => ?_
  cases d with
  | tup xs =>
    cases r1 with
    | tup h1 k =>
      have h : Tat X.K ct (RI X.K ct.ad) W fr F1 ρ1 (pur (enumD xs)) σ R := h
      exact ⟨_, _, rfl, sameT S1.fh h1, h.ok _ F1 H1 (Same.refl _) S1 (it_enumT h1 k)⟩
  | _ => obtain ⟨_, _, e, _⟩ := h; cases e
def itEL (e : Ev) : M (List D) := bnd (dat e) fun d => match d with | .lst xs => pur (enumD xs) | .sq xs => pur (enumD xs) | _ => fai
def tints (d : D) : Option (List Int) := d.titems.bind D.ints
def gSumT : List D → Option D | [d] => (tints d).map fun ns => .int ns.sum | _ => none
theorem tints_i {d : D} {ns : List Int} (h : tints d = some ns) : ∃ xs, d.titems = some xs ∧ D.ints xs = some ns := by
  unfold tints at h
  cases e : d.titems with
  | none => rw [e] at h; exact nomatch h
  | some xs => rw [e] at h; exact ⟨xs, rfl, h⟩
theorem ob_sumT {ad : Cl → Addr} : OB K ad (OW.rSumT K) gSumT := by
  intro F H vs ds z Q s r e q _
  unfold gSumT at e
  split at e
  · rename_i d
    obtain ⟨ns, e1, rfl⟩ := map_some e
    obtain ⟨v, rfl, rv⟩ := one_i r
    obtain ⟨xs, g1, g2⟩ := tints_i e1
    cases d <;> cases g1
    cases rv with
    | tup h1 k =>
      rw [D.ints_eq g2] at k
      rw [k.ints] at h1
      exact ⟨_, ns, rfl, sameT s h1, q _ (.int _)⟩
  · cases e
/-! how often a text lies in another -/
def evCnt (o e : Ev) : Ev := bnd (dat o) fun x => match x with
  | .str a => bnd (dat e) fun y => match y with
    | .str b => pur (.d (.int (Txt.count a b)))
    | _ => fai
  | _ => fai
theorem pp_cnt {o e : Expr} {fo fe : Ev} {apos pos : Pos} (ho : PE X o (TP K ct W fo)) (he : PE X e (TP K ct W fe)) (hs : starEach [e] X.env = [(false, eval e X.env)] := by rfl) (hbase : attributeBase o "count" X.env (eval o X.env) = eval o X.env := by rfl) (hline : (apos.endLine == pos.line) = true := by rfl)
    (hfew : ((backTo pos (starEach [e] X.env)).all (fun x => !x.1) && (backToKw pos (keywordEach [] X.env)).all (fun x => x.1.isSome) && decide ([e].length + ([] : List Keyword).length + (if ([] : List Keyword).isEmpty then 0 else 1) < 30)) = true := by rfl) :
    PE X (.Call (.Attribute o "count" apos) [e] [] pos) (TP K ct W (evCnt fo fe)) := (pe_bm PySem.F.plainAttrs_str PySem.F.slot_str_count PySem.F.type_str_count mt_count ho (pa_cons he pa_nil (by rw [hs]; rfl)) hbase hfew hline hs rfl).imp fun σ H Q h => by
  obtain ⟨fr, F, ρ, S, h⟩ := h
  refine Tat.dat h S fun F1 H1 ρ1 v d s1 S1 r1 h => ?_
  have sv : ∃ a, d = .str a := by
    cases d with
    | str a => exact ⟨a, rfl⟩
    | _ => obtain ⟨_, _, z, _⟩ := h; cases z
  obtain ⟨a, rfl⟩ := sv
  cases r1
  refine ⟨rfl, ?_⟩
  refine Tat.dat h S1 fun F2 H2 ρ2 u y s2 S2 r2 h => ?_
  have su : ∃ b, y = .str b := by
    cases y with
    | str b => exact ⟨b, rfl⟩
    | _ => obtain ⟨_, _, z, _⟩ := h; cases z
  obtain ⟨b, rfl⟩ := su
  cases r2
  exact ⟨a, b, rfl, rfl, h.ok _ F2 H2 (Same.refl _) S2 (.int _)⟩
/-! zip of two lists, of two tuples -/
def zipD (xs ys : List D) : List D := (xs.zip ys).map fun p => .tup [p.1, p.2]
theorem zipD_at {xs ys : List D} {i : Nat} {x : D} (e : (zipD xs ys)[i]? = some x) : ∃ a b, xs[i]? = some a ∧ ys[i]? = some b ∧ x = .tup [a, b] := by
  unfold zipD at e
  rw [List.getElem?_map] at e
  obtain ⟨p, e1, e2⟩ := Option.map_eq_some_iff.mp e
  obtain ⟨h1, h2⟩ := List.getElem?_zip_eq_some.mp e1
  exact ⟨p.1, p.2, h1, h2, e2.symm⟩
theorem al_new {F1 H1 : Hp} {T : Addr} {o : HO} (s2 : Same F1 H1) (hT : H1 T = none) : Al F1 H1 (upd F1 T o) (upd H1 T o) ∧ Same F1 (upd F1 T o) := by
  have fT : F1 T = none := by
    cases q : F1 T with
    | none => rfl
    | some o => rw [s2 _ _ q] at hT; cases hT
  refine ⟨⟨same_up fT, same_up hT, fun b u q => ?_, fun b hb fb => ?_⟩, same_up fT⟩
  · by_cases c : b = T
    · subst c; rw [upd_same] at q; rw [upd_same]; exact q
    · rw [upd_ne c] at q; rw [upd_ne c]; exact s2 _ _ q
  · rw [upd_ne (fun q => hb (by rw [q]; exact hT))]
    exact fb
theorem it_zipL {a b : Addr} {vs us : List V} {xs ys : List D} (h : SqL K F a vs) (r : Rps K ct.ad F vs xs) (h' : SqL K F b us) (r' : Rps K ct.ad F us ys) : ItOk K ct.ad F (zipD xs ys) (Itz K a b) := by
  intro F1 H1 s1 s2 i
  have h1 : SqL K H1 a vs := (s1.trans s2).seq h
  have h2 : SqL K H1 b us := (s1.trans s2).seq h'
  refine ⟨fun x e => ?_, fun l => ⟨vs, us, h1, h2, by unfold zipD at l; rw [List.length_map, List.length_zip] at l; rw [r.len, r'.len]; omega⟩⟩
  obtain ⟨d, d', ed, ed', rfl⟩ := zipD_at e
  obtain ⟨v, e1, e2⟩ := r.get ed
  obtain ⟨v', e1', e2'⟩ := r'.get ed'
  refine ⟨⟨vs, us, v, v', h1, h2, e1, e1'⟩, fun u H2 y => ?_⟩
  obtain ⟨T, z, z', rfl, hT, rfl, hz, hz'⟩ := y
  have hz := hz vs h1
  have hz' := hz' us h2
  rw [e1] at hz
  rw [e1'] at hz'
  cases hz
  cases hz'
  obtain ⟨al, up⟩ := al_new (o := .tup [v, v']) s2 hT
  exact ⟨_, al, Rp.tup (SqT.of upd_same) (.cons ((e2.mono s1).mono up) (.cons ((e2'.mono s1).mono up) .nil))⟩
theorem it_zipT {a b : Addr} {vs us : List V} {xs ys : List D} (h : SqT K F a vs) (r : Rps K ct.ad F vs xs) (h' : SqT K F b us) (r' : Rps K ct.ad F us ys) : ItOk K ct.ad F (zipD xs ys) (RZ.ItzT K a b) := by
  intro F1 H1 s1 s2 i
  have h1 : SqT K H1 a vs := sameT (s1.trans s2) h
  have h2 : SqT K H1 b us := sameT (s1.trans s2) h'
  refine ⟨fun x e => ?_, fun l => ⟨vs, us, h1, h2, by unfold zipD at l; rw [List.length_map, List.length_zip] at l; rw [r.len, r'.len]; omega⟩⟩
  obtain ⟨d, d', ed, ed', rfl⟩ := zipD_at e
  obtain ⟨v, e1, e2⟩ := r.get ed
  obtain ⟨v', e1', e2'⟩ := r'.get ed'
  refine ⟨⟨vs, us, v, v', h1, h2, e1, e1'⟩, fun u H2 y => ?_⟩
  obtain ⟨T, z, z', rfl, hT, rfl, hz, hz'⟩ := y
  have hz := hz vs h1
  have hz' := hz' us h2
  rw [e1] at hz
  rw [e1'] at hz'
  cases hz
  cases hz'
  obtain ⟨al, up⟩ := al_new (o := .tup [v, v']) s2 hT
  exact ⟨_, al, Rp.tup (SqT.of upd_same) (.cons ((e2.mono s1).mono up) (.cons ((e2'.mono s1).mono up) .nil))⟩
def itZ (a b : Ev) : M (List D) := bnd (dat a) fun x => bnd (dat b) fun y => match x, y with
  | .lst xs, .lst ys => pur (zipD xs ys)
  | .tup xs, .tup ys => pur (zipD xs ys)
  | _, _ => fai
theorem pi_z {e e2 : Expr} {elts : List Expr} {kk : Nat} {p pos tpos : Pos} {m n : Ev} (eK : X.K = K) (hg : Gl X "zip") (hm : X.mg "zip" = none) (he : PE X e (TP K ct W m)) (he2 : PE X e2 (TP K ct W n))
    (hs : starEach [e, e2] X.env = [(false, eval e X.env), (false, eval e2 X.env)] := by rfl) (hs2 : starEach [e2] X.env = [(false, eval e2 X.env)] := by rfl) :
    PI X (.Tuple elts kk tpos) (.Call (.Name "zip" p) [e, e2] [] pos) (TIt K ct W (itZ m n)) := by
  subst eK
  refine (RZ.pi_zipA hg hm (pa_cons he (pa_cons he2 pa_nil (by rw [hs2]; rfl)) (by rw [hs, hs2])) (by rw [hs, hs2]) (by rw [hs2]; rfl)).imp fun σ H R h => ?_
  obtain ⟨fr, F, ρ, S, h⟩ := h
  refine Tat.dat h S fun F1 H1 ρ1 v d s1 S1 r1 h => ?_
  refine Tat.dat h S1 fun F2 H2 ρ2 u d2 s2 S2 r2 h => ?_
  have r1 := r1.mono s2
  cases d with
  | lst xs =>
    cases d2 with
    | lst ys =>
      cases r1 with
      | lst h1 k1 =>
        cases r2 with
        | lst h2 k2 =>
          have h : Tat X.K ct (RI X.K ct.ad) W fr F2 ρ2 (pur (zipD xs ys)) σ R := h
          exact ⟨_, _, _, _, rfl, .inl ⟨SqL.of (S2.fh _ _ h1), SqL.of (S2.fh _ _ h2), h.ok _ F2 H2 (Same.refl _) S2 (it_zipL (SqL.of h1) k1 (SqL.of h2) k2)⟩⟩
    | _ => obtain ⟨_, _, z, _⟩ := h; cases z
  | tup xs =>
    cases d2 with
    | tup ys =>
      cases r1 with
      | tup h1 k1 =>
        cases r2 with
        | tup h2 k2 =>
          have h : Tat X.K ct (RI X.K ct.ad) W fr F2 ρ2 (pur (zipD xs ys)) σ R := h
          exact ⟨_, _, _, _, rfl, .inr ⟨sameT S2.fh h1, sameT S2.fh h2, h.ok _ F2 H2 (Same.refl _) S2 (it_zipT h1 k1 h2 k2)⟩⟩
    | _ => obtain ⟨_, _, z, _⟩ := h; cases z
  | _ => obtain ⟨_, _, z, _⟩ := h; cases z
/-! range with a step -/
def rng3D (lo c : Int) (n : Nat) : List D := (List.range n).map fun (i : Nat) => .int (lo + i * c)
/-- what a range may be -/
def stepOk (i j c : Int) : Prop := c ≠ 0 ∧ c.natAbs < 1073741824 ∧ Builtin.Range.small i j c = true ∧ 0 ≤ Builtin.Range.rangeSize i j c
instance {i j c : Int} : Decidable (stepOk i j c) := by unfold stepOk; exact inferInstance
def itR3 (a b c : Ev) : M (List D) := bnd (dat a) fun x => bnd (dat b) fun y => bnd (dat c) fun z => match x, y, z with
  | .int i, .int j, .int k => if stepOk i j k then pur (rng3D i k (Builtin.Range.rangeSize i j k).toNat) else fai
  | _, _, _ => fai
end PL
end
section
namespace PL
open PySem PySem.Spec PyProof.Rows L2
/-! ### a comprehension that goes into a name which another comprehension reads: no exchange of stores -/
/-! ### t[::2], t[1::2], t[::-1] of a tuple -/
def evs {α : Type} : List α → List α | [] => [] | [a] => [a] | a :: _ :: r => a :: evs r
def ods {α : Type} : List α → List α | [] => [] | [_] => [] | _ :: b :: r => b :: ods r
theorem evs_len {α : Type} : ∀ xs : List α, (evs xs).length = (xs.length + 1) / 2
  | [] => by simp [evs]
  | [_] => by simp [evs]
  | _ :: _ :: r => by rw [evs, List.length_cons, evs_len r, List.length_cons, List.length_cons]; omega
theorem ods_len {α : Type} : ∀ xs : List α, (ods xs).length = xs.length / 2
  | [] => by simp [ods]
  | [_] => by simp [ods]
  | _ :: _ :: r => by rw [ods, List.length_cons, ods_len r, List.length_cons, List.length_cons]; omega
theorem evs_get {α : Type} : ∀ (xs : List α) (k : Nat), (evs xs)[k]? = xs[2 * k]?
  | [], k => by simp [evs]
  | [a], 0 => rfl
  | [a], k + 1 => by rw [evs, List.getElem?_cons_succ, List.getElem?_nil, List.getElem?_eq_none (by simp; omega)]
  | a :: b :: r, 0 => rfl
  | a :: b :: r, k + 1 => by rw [evs, List.getElem?_cons_succ, evs_get r k, show 2 * (k + 1) = 2 * k + 1 + 1 by omega, List.getElem?_cons_succ, List.getElem?_cons_succ]
theorem ods_get {α : Type} : ∀ (xs : List α) (k : Nat), (ods xs)[k]? = xs[2 * k + 1]?
  | [], k => by simp [ods]
  | [a], k => by rw [ods, List.getElem?_nil, List.getElem?_eq_none (by simp)]
  | a :: b :: r, 0 => rfl
  | a :: b :: r, k + 1 => by rw [ods, List.getElem?_cons_succ, ods_get r k, show 2 * (k + 1) + 1 = 2 * k + 1 + 1 + 1 by omega, List.getElem?_cons_succ, List.getElem?_cons_succ]
theorem fm_get {α : Type} {xs ys : List α} {f : Nat → Nat} (h : ∀ k, k < ys.length → xs[f k]? = ys[k]?) : (List.range ys.length).filterMap (fun k => xs[f k]?) = ys := by
  have go : ∀ n, n ≤ ys.length → (List.range n).filterMap (fun k => xs[f k]?) = ys.take n := by
    intro n
    induction n with
    | zero => intro _; rfl
    | succ n ih =>
      intro hn
      rw [List.range_succ, List.filterMap_append, ih (by omega), List.take_add_one, List.filterMap_cons, List.filterMap_nil, h n (by omega)]
      cases ys[n]? <;> rfl
  rw [go _ (Nat.le_refl _), List.take_length]
/-- which slice with a step -/
inductive StK | ev | od | rv
def StK.lo : StK → Option Int | .od => some 1 | _ => none
def StK.st : StK → Int | .rv => -1 | _ => 2
def StK.ap {α : Type} (k : StK) (xs : List α) : List α := match k with | .ev => evs xs | .od => ods xs | .rv => xs.reverse
theorem StK.len {α : Type} (k : StK) (xs : List α) : (k.ap xs).length ≤ xs.length := by
  cases k with
  | ev => show (evs xs).length ≤ _; rw [evs_len]; omega
  | od => show (ods xs).length ≤ _; rw [ods_len]; omega
  | rv => show xs.reverse.length ≤ _; rw [List.length_reverse]; omega
theorem StK.pick {α : Type} (k : StK) (xs : List α) :
    (List.range (Builtin.Slice.slicePlaces (Builtin.Slice.sliceAdjust k.lo none k.st xs.length).1 (Builtin.Slice.sliceAdjust k.lo none k.st xs.length).2 k.st)).filterMap (fun (m : Nat) => xs[((Builtin.Slice.sliceAdjust k.lo none k.st xs.length).1 + (m : Int) * k.st).toNat]?) = k.ap xs := by
  have key : ∀ (a : Int) (s : Int) (n : Nat) (ys : List α), n = ys.length → (∀ m, m < ys.length → xs[(a + (m : Int) * s).toNat]? = ys[m]?) → (List.range n).filterMap (fun (m : Nat) => xs[(a + (m : Int) * s).toNat]?) = ys := by
    intro a s n ys e h
    subst e
    exact fm_get (f := fun m => (a + (m : Int) * s).toNat) h
  cases k with
  | ev =>
    refine key _ _ _ _ ?_ fun m hm => ?_
    · show Builtin.Slice.slicePlaces (Builtin.Slice.sliceAdjust none none 2 (xs.length : Int)).1 (Builtin.Slice.sliceAdjust none none 2 (xs.length : Int)).2 2 = (evs xs).length
      rw [evs_len]
      unfold Builtin.Slice.sliceAdjust Builtin.Slice.slicePlaces
      simp
      split <;> omega
    · show xs[((Builtin.Slice.sliceAdjust none none 2 (xs.length : Int)).1 + (m : Int) * 2).toNat]? = (evs xs)[m]?
      rw [evs_get]
      congr 1
      (unfold Builtin.Slice.sliceAdjust; simp; omega)
  | od =>
    refine key _ _ _ _ ?_ fun m hm => ?_
    · show Builtin.Slice.slicePlaces (Builtin.Slice.sliceAdjust (some 1) none 2 (xs.length : Int)).1 (Builtin.Slice.sliceAdjust (some 1) none 2 (xs.length : Int)).2 2 = (ods xs).length
      rw [ods_len]
      unfold Builtin.Slice.sliceAdjust Builtin.Slice.slicePlaces
      simp
      split <;> omega
    · show xs[((Builtin.Slice.sliceAdjust (some 1) none 2 (xs.length : Int)).1 + (m : Int) * 2).toNat]? = (ods xs)[m]?
      have hm : m < (ods xs).length := hm
      rw [ods_len] at hm
      rw [ods_get]
      congr 1
      (unfold Builtin.Slice.sliceAdjust; simp; omega)
  | rv =>
    refine key _ _ _ _ ?_ fun m hm => ?_
    · show Builtin.Slice.slicePlaces (Builtin.Slice.sliceAdjust none none (-1) (xs.length : Int)).1 (Builtin.Slice.sliceAdjust none none (-1) (xs.length : Int)).2 (-1) = xs.reverse.length
      rw [List.length_reverse]
      unfold Builtin.Slice.sliceAdjust Builtin.Slice.slicePlaces
      simp
      split <;> omega
    · show xs[((Builtin.Slice.sliceAdjust none none (-1) (xs.length : Int)).1 + (m : Int) * (-1)).toNat]? = xs.reverse[m]?
      have hm : m < xs.reverse.length := hm
      rw [List.length_reverse] at hm
      rw [List.getElem?_reverse hm]
      congr 1
      (unfold Builtin.Slice.sliceAdjust; simp; omega)
theorem StK.map {α β : Type} {R : α → β → Prop} : ∀ (k : StK) {xs : List α} {ys : List β}, xs.length = ys.length → (∀ (i : Nat) (x : α), xs[i]? = some x → ∃ y, ys[i]? = some y ∧ R x y) → (k.ap xs).length = (k.ap ys).length ∧ ∀ (i : Nat) (x : α), (k.ap xs)[i]? = some x → ∃ y, (k.ap ys)[i]? = some y ∧ R x y := by
  intro k xs ys hl h
  cases k with
  | ev => exact ⟨by show (evs xs).length = (evs ys).length; rw [evs_len, evs_len, hl], fun i x (e : (evs xs)[i]? = _) => by
      rw [evs_get] at e; obtain ⟨y, h1, h2⟩ := h _ x e; exact ⟨y, by show (evs ys)[i]? = _; rw [evs_get]; exact h1, h2⟩⟩
  | od => exact ⟨by show (ods xs).length = (ods ys).length; rw [ods_len, ods_len, hl], fun i x (e : (ods xs)[i]? = _) => by
      rw [ods_get] at e; obtain ⟨y, h1, h2⟩ := h _ x e; exact ⟨y, by show (ods ys)[i]? = _; rw [ods_get]; exact h1, h2⟩⟩
  | rv => exact ⟨by show xs.reverse.length = ys.reverse.length; rw [List.length_reverse, List.length_reverse, hl], fun i x (e : xs.reverse[i]? = _) => by
      have l : i < xs.reverse.length := by
        rcases Nat.lt_or_ge i xs.reverse.length with q | q
        · exact q
        · rw [List.getElem?_eq_none q] at e; cases e
      rw [List.length_reverse] at l
      rw [List.getElem?_reverse l] at e
      obtain ⟨y, h1, h2⟩ := h _ x e
      refine ⟨y, ?_, h2⟩
      show ys.reverse[i]? = _
      rw [List.getElem?_reverse (by omega), ← hl]
      exact h1⟩
theorem vals_of : ∀ {xs : List V} {us : List Value}, xs.length = us.length → (∀ (i : Nat) (x : V), xs[i]? = some x → ∃ u, us[i]? = some u ∧ RelV x u) → Vals xs us
  | [], [], _, _ => .nil
  | x :: xs, u :: us, hl, h => by
    obtain ⟨u', h1, h2⟩ := h 0 x rfl
    cases h1
    exact .cons h2 (vals_of (by simpa using hl) fun i y e => h (i + 1) y e)
theorem StK.vals (k : StK) {xs : List V} {us : List Value} (r : Vals xs us) : Vals (k.ap xs) (k.ap us) := by
  obtain ⟨h1, h2⟩ := k.map (R := RelV) r.length fun i x e => r.get e
  exact vals_of h1 h2
variable {K : PySem.W.Frag} {ad : Cl → Addr} {ct : CT}
theorem rps_of {F : Hp} : ∀ {vs : List V} {ds : List D}, ds.length = vs.length → (∀ (i : Nat) (d : D), ds[i]? = some d → ∃ v, vs[i]? = some v ∧ Rp K ad F v d) → Rps K ad F vs ds
  | [], [], _, _ => .nil
  | v :: vs, d :: ds, hl, h => by
    obtain ⟨v', h1, h2⟩ := h 0 d rfl
    cases h1
    exact .cons h2 (rps_of (by simpa using hl) fun i y e => h (i + 1) y e)
theorem StK.rps (k : StK) {F : Hp} {vs : List V} {ds : List D} (r : Rps K ad F vs ds) : Rps K ad F (k.ap vs) (k.ap ds) := by
  obtain ⟨h1, h2⟩ := k.map (R := fun d v => Rp K ad F v d) r.len.symm fun i x e => r.get e
  exact rps_of h1 h2
section
variable {prog : Program} {w : World} {A : Around} {E : Value → Shared → Prop} {s : Shared}
/-- where such a slice begins, and how many places it has -/
def StK.at0 (k : StK) (n : Int) : Int := (Builtin.Slice.sliceAdjust k.lo none k.st n).1
def StK.many (k : StK) (n : Int) : Nat := Builtin.Slice.slicePlaces (k.at0 n) (Builtin.Slice.sliceAdjust k.lo none k.st n).2 k.st
theorem StK.st_ne (k : StK) : (k.st == 0) = false ∧ (k.st == 1) = false := by cases k <;> exact ⟨by decide, by decide⟩
theorem StK.pickA (k : StK) (its : Array Value) : (List.range (k.many its.size)).filterMap (fun (m : Nat) => its[(k.at0 its.size + (m : Int) * k.st).toNat]?) = k.ap its.toList := by
  have e : (fun (m : Nat) => its[(k.at0 its.size + (m : Int) * k.st).toNat]?) = fun (m : Nat) => its.toList[(k.at0 its.size + (m : Int) * k.st).toNat]? := funext fun m => (Array.getElem?_toList).symm
  rw [e]
  have q := k.pick its.toList
  rw [Array.length_toList] at q
  exact q
/-- the slice's three fields, read in their order -/
theorem applied_st {sl : Addr} {vl vs : Value} {k : StK} {n : Nat} {Q : Int × Int × Nat → Shared → Prop} (hs : s.heap.IsSliceOf sl vl .none vs) (pl : IsPart vl k.lo) (ps : IsPart vs (some k.st)) (h : Q (k.at0 n, k.st, k.many n) s) : wpAny (model prog w) A (Builtin.Slice.sliceApplied (.ref sl) (pure (n : Int))) Q E s := by
  obtain ⟨o, ho, _, hf⟩ := id hs
  have rd : ∀ {x : Value} {i : Nat} {R : Value → Shared → Prop}, #[vl, Value.none, vs][i]? = some x → R x s → wpAny (model prog w) A (field (.ref sl) i) R E s := fun e r => wpAny_field ho hf e r
  have fields : ∀ {R : Value × Value × Value → Shared → Prop}, R (vl, .none, vs) s → wpAny (model prog w) A (Builtin.Slice.sliceFields (.ref sl)) R E s := fun r => by
    unfold Builtin.Slice.sliceFields
    exact wpAny_bind (rd rfl (wpAny_bind (rd rfl (wpAny_bind (rd rfl (wpAny_pure r))))))
  unfold Builtin.Slice.sliceApplied
  refine wpAny_bind (fields (wpAny_bind (HT.slicePart_ ps ?_)))
  show (wpAny _ _ (if (k.st == 0) = true then _ else _) _ _ s)
  rw [k.st_ne.1, if_neg (fun q => nomatch q)]
  exact wpAny_bind (HT.slicePart_ pl (wpAny_bind (slicePart_none (wpAny_bind (wpAny_pure (wpAny_pure h))))))
/-- what tuple.__getitem__ gives for it -/
theorem entry_st {t sl : Addr} {its : Array Value} {vl vs : Value} {k : StK} {Q : Fin → Shared → Prop} (ht : IsTup s.heap t its) (hs : s.heap.IsSliceOf sl vl .none vs) (pl : IsPart vl k.lo) (ps : IsPart vs (some k.st)) (hz : its.size ≤ sizeLine)
    (h : Q (.done (.ret (.ref s.heap.objs.size))) { s with heap := s.heap.push { cls := .type "tuple", data := .seq (k.ap its.toList).toArray } }) : wpAny (model prog w) A (Builtin.«tuple.__getitem__» ⟨[.ref t, .ref sl], []⟩) Q E s := by
  obtain ⟨o, ho, hc, hf⟩ := id hs
  have fits : sizeOk (.seq (k.ap its.toList).toArray) := by
    have l := k.len its.toList
    rw [Array.length_toList] at l
    show (List.toArray _).size ≤ sizeLine
    rw [List.size_toArray]
    exact Nat.le_trans l hz
  show (wpAny _ _ (Builtin.Tuple.tupleItemsOf (.ref t) >>= _) _ _ s)
  refine (wpAny_bind (tupleItemsOf_ ht (wpAny_bind (wpAny_typeOf ⟨o, ho, hc⟩ ?_))))
  rw [if_pos (by decide)]
  refine (wpAny_bind (applied_st hs pl ps ?_))
  show (wpAny _ _ (if (k.at0 its.size == 0 && k.st == 1 && k.many its.size == its.size) = true then _ else _) _ _ s)
  rw [k.st_ne.2, Bool.and_false, Bool.false_and, if_neg (fun q => nomatch q), k.pickA its]
  first
    | exact (wpAny_bind (m := Builtin.Tuple.tupleExact _) (wpAny_newObj_type (wpAny_pure (wpAny_pure h)) fits))
    | exact (wpAny_bind (m := Builtin.Tuple.tupleExact _) (wpAny_newObj_type (wpAny_pure h) fits))
    | exact (wpAny_bind (m := Builtin.Tuple.tupleExact _) (wpAny_newObj_type (wpAny_bind (wpAny_pure (wpAny_pure h))) fits))
    | exact (wpAny_bind (wpAny_bind (m := Builtin.Tuple.tupleExact _) (wpAny_newObj_type (wpAny_pure (wpAny_pure h)) fits)))
theorem getItem_tuple_st {t sl : Addr} {items : Array Value} {vl vs : Value} {k : StK} {Q : Value → Shared → Prop} (ht : IsTup s.heap t items) (hs : s.heap.IsSliceOf sl vl .none vs) (pl : IsPart vl k.lo) (ps : IsPart vs (some k.st))
    (h : Q (.ref s.heap.objs.size) { s with heap := s.heap.push { cls := .type "tuple", data := .seq (k.ap items.toList).toArray } }) (hz : items.size ≤ sizeLine) : wpAny (model prog w) A (getItem (.ref t) (.ref sl)) Q E s := by
  exact wpAny_getItem_slot ht.typeIs (by decide) PyProof.Rows.slot_tuple_getitem (wpAny_call_entry PyProof.Rows.slot_tuple_getitem ht.typeIs PyProof.Rows.entry_tuple_getitem (entry_st ht hs pl ps hz ⟨_, rfl, h⟩) (PyProof.Rows.args_tuple_getitem _ _))
end
section
variable {fr : Fr} {F F' H H' : Hp} {σ : L2.St} {ρ : List Sl} {W : WX} {X : Cx}
def tStT (K : PySem.W.Frag) (k : StK) (te : TE) : TE := fun σ H Q => te σ H fun x H1 => ∃ a xs, x = .ref a ∧ SqT K H1 a xs ∧ ∀ p, H1 p = none → Q (.ref p) (upd H1 p (.tup (k.ap xs)))
/-- the written parts of such a slice -/
inductive StE : StK → Option Expr → Option Expr → Prop
  | ev (k : Nat) (p : Pos) : StE .ev none (some (.Constant (.int 2) k p))
  | od (k k' : Nat) (p p' : Pos) : StE .od (some (.Constant (.int 1) k' p')) (some (.Constant (.int 2) k p))
  | rv (k : Nat) (p p' : Pos) : StE .rv none (some (.UnaryOp .USub (.Constant (.int 1) k p) p'))
theorem PO.get {lo : Option Expr} {to : TO} (h : PO X lo to) {pins : List (Addr × Obj)} {s : Shared} {σ : L2.St} {H : Hp} {o : Option Int} (I : Inv X pins σ H s) (q : to σ H fun o' H' => o' = o ∧ H' = H) :
    wpAny (model X.prog X.w) X.A (evalPart lo X.env) (fun vl s1 => Inv X pins σ H s1 ∧ IsPart vl o) X.xe s :=
  thn (h.run pins s σ H _ I q) fun vl s1 ⟨l, H2, I2, pl, el, e2⟩ => by subst el e2; exact ⟨I2, pl⟩
theorem pe_st {k : StK} {e : Expr} {te : TE} {lo st : Option Expr} {p3 pos : Pos} (he : PE X e te) (hp : StE k lo st) : PE X (.Subscript e (.Slice lo none st p3) pos) (tStT X.K k te) := by
  (refine ⟨fun pins s σ H Q I h => ?_⟩)
  (refine Subscript_ (thn (he.run pins s σ H _ I h) fun v s1 ⟨x, H1, I1, r1, q1⟩ => ?_))
  (obtain ⟨a, xs, ex, hx, q⟩ := q1)
  subst ex
  cases r1
  have h1 : wpAny (model X.prog X.w) X.A (evalPart lo X.env) (fun vl s1 => Inv X pins σ H1 s1 ∧ IsPart vl k.lo) X.xe s1 := by
    cases hp with
    | ev k p => exact PO.get po_none I1 ⟨rfl, rfl⟩
    | od k k' p p' => exact PO.get (po_some pe_int) I1 ⟨1, rfl, rfl, rfl⟩
    | rv k p p' => exact PO.get po_none I1 ⟨rfl, rfl⟩
  refine wpAny_Slice (thn h1 fun vl s2 ⟨I2, pl⟩ => ?_)
  refine thn (PO.get po_none I2 (o := none) ⟨rfl, rfl⟩) fun vu s3 ⟨I3, pu⟩ => ?_
  have h2 : wpAny (model X.prog X.w) X.A (evalPart st X.env) (fun vl s1 => Inv X pins σ H1 s1 ∧ IsPart vl (some k.st)) X.xe s3 := by
    cases hp with
    | ev k p => exact PO.get (po_some pe_int) I3 ⟨2, rfl, rfl, rfl⟩
    | od k k' p p' => exact PO.get (po_some pe_int) I3 ⟨2, rfl, rfl, rfl⟩
    | rv k p p' => exact PO.get (po_some (pe_un un_neg pe_int)) I3 ⟨1, rfl, -1, rfl, rfl, rfl⟩
  refine thn h2 fun vs s4 ⟨I4, ps⟩ => ?_
  have eu : vu = .none := by cases pu; rfl
  subst eu
  have I5 : Inv X pins σ H1 { s4 with heap := s4.heap.push { cls := .type "slice", data := .fields #[vl, .none, vs] } } := I4.kept (t' := s4.toks) fun b ob q => Heap.get?_push_of_some _ q
  obtain ⟨its, r, ht, hz⟩ := I5.tuple hx
  have hlen := r.length
  show wpAny (model X.prog X.w) X.A (subscriptTail e (.Slice lo none st p3) (.ref a) (.ref s4.heap.objs.size)) (EP X pins σ Q) X.xe { s4 with heap := s4.heap.push { cls := .type "slice", data := .fields #[vl, .none, vs] } }
  refine tail_any (ops := [.ref a, .ref s4.heap.objs.size]) ht.typeIs (PyProof.Rows.slot_tuple_getitem.lookup) ?_ (by cases hp <;> with_unfolding_all rfl)
  refine getItem_tuple_st ht (Heap.IsSliceOf.new _ vl .none vs) pl ps ?_ (by rw [List.size_toArray]; omega)
  refine ⟨.ref _, _, I5.laid (t' := s4.toks) (o := .tup (k.ap xs)) (fun b ob q => Heap.get?_push_of_some _ q) (Nat.le_refl _) ?_, rfl, q _ (I5.hok.fresh (Nat.le_refl _))⟩
  have r2 := k.vals r
  have l2 := k.len xs
  exact ⟨by omega, _, r2, ⟨_, Heap.get?_push_size _ rfl, rfl, 0, rfl⟩⟩
def evSt (k : StK) (m : Ev) : Ev := bnd (dat m) fun d => match d with | .tup xs => vD (.tup (k.ap xs)) | _ => fai
theorem pp_st {k : StK} {e : Expr} {m : Ev} {lo st : Option Expr} {p3 pos : Pos} (eK : X.K = K) (he : PE X e (TP K ct W m)) (hp : StE k lo st) : PE X (.Subscript e (.Slice lo none st p3) pos) (TP K ct W (evSt k m)) := by
  subst eK
  refine (pe_st he hp).imp fun σ H Q ⟨fr, F, ρ, S, h⟩ => ?_
  refine Tat.dat h S fun F1 H1 ρ1 v d s1 S1 r1 h => ?_
  cases r1 with
  | tup h1 k1 =>
    exact ⟨_, _, rfl, sameT S1.fh h1, fun q hq => Tat.ok (a := Rv.d (.tup (k.ap _))) h _ (upd F1 q (.tup (k.ap _))) _ (same_up (S1.nn hq)) (S1.newD hq) (Rp.tup (SqT.of upd_same) ((k.rps k1).mono (same_up (S1.nn hq))))⟩
  | _ => obtain ⟨_, _, e, _⟩ := h; cases e
end
/-! ### x in o, x not in o, also as tests -/
end PL
namespace OW
open PySem PySem.Spec PyProof.Rows L2
section
variable {CX : CXT} {X : Cx} {C : Addr} {f : Addr} {fd : FuncData} {k : Nat} {ps : List Str} {sp : Sp} {E : XK}
end
end OW
namespace PL
open PySem PySem.Spec PyProof.Rows L2
section
variable {CX : CXT} {K : PySem.W.Frag} {ct : CT} {fr : Fr} {F F' H H' : Hp} {σ : L2.St} {ρ : List Sl} {W : WX} {X : Cx} {f : Addr} {fd : FuncData} {k : Nat} {ps : List Str} {n : Nat} {G : Fn} {pos : Pos}
/-- x not in o -/
def evOwnNin (n : Nat) (G : Fn) (c : Cl) (a b : Ev) : Ev := bnd (dat a) fun x => bnd (dat b) fun d => match d with
  | .obj c' xs => if c' = c then tst (noEr (callG n G [.d (.obj c xs), .d x])) |> fun t => bnd t fun b => vD (.bl (!b)) else fai
  | _ => fai
variable {m : Str} {a b : Expr} {fa fb : Ev}
end
end PL
/-! ### min, max, sum over a list or a tuple -/
namespace OW
open PySem PySem.Spec PyProof.Rows L2
def rMinT (K : PySem.W.Frag) : List V → Hp → VK → Prop := fun vs H Q => ∃ (a : Addr) (ns : List Int), vs = [V.ref a] ∧ SqT K H a (ns.map V.int) ∧ ns ≠ [] ∧ Q (.int (PL.minI ns)) H
def rMaxT (K : PySem.W.Frag) : List V → Hp → VK → Prop := fun vs H Q => ∃ (a : Addr) (ns : List Int), vs = [V.ref a] ∧ SqT K H a (ns.map V.int) ∧ ns ≠ [] ∧ Q (.int (PL.maxI ns)) H
theorem cr_minT {X : Cx} (hc : X.calm = true) (hu : X.A.units + 64 < cLine) : CallR X (.builtin "min") (rMinT X.K) := by
  intro pn s σ H vs us Q I r ⟨a, ns, e, hs, hne, q⟩
  subst e
  obtain ⟨its, rv, p, _⟩ := I.tuple hs
  have p : s.heap.IsTuple a its.toArray := p
  have hi := rv.ints
  have hd := depth_ints ns
  rw [Vals.ref1 r]
  cases ns with
  | nil => exact absurd rfl hne
  | cons n ns =>
    refine PySem.W.min_tuple_data (I.ok.hd hc) p (x := .int n) (xs := ns.map PyData.int) (as := []) (by simpa using hi.reads s.heap) (alike_ints (n :: ns)) (by rw [List.map_cons] at hd; omega) (fun i v h' tk bs _ rd kp => ?_)
    rw [PySem.W.minD_ints] at rd
    cases rd
    exact ⟨.int _, H, I.kept kp, ⟨_, rfl⟩, q⟩
/-- either of two readings of a call -/
def rOr (r1 r2 : List V → Hp → VK → Prop) : List V → Hp → VK → Prop := fun vs H Q => r1 vs H Q ∨ r2 vs H Q
theorem cr_or {X : Cx} {f : Value} {r1 r2 : List V → Hp → VK → Prop} (h1 : CallR X f r1) (h2 : CallR X f r2) : CallR X f (rOr r1 r2) := by
  intro pn s σ H vs us Q I r h
  rcases h with h | h
  · exact h1 pn s σ H vs us Q I r h
  · exact h2 pn s σ H vs us Q I r h
end OW
namespace PL
open PySem PySem.Spec PyProof.Rows L2
section
variable {K : PySem.W.Frag} {ad : Cl → Addr} {X : Cx}
def aints (d : D) : Option (List Int) := d.items.bind D.ints
def gMinA : List D → Option D | [d] => (aints d).bind fun ns => if ns ≠ [] then some (.int (minI ns)) else none | _ => none
def gMaxA : List D → Option D | [d] => (aints d).bind fun ns => if ns ≠ [] then some (.int (maxI ns)) else none | _ => none
def gSumA : List D → Option D | [d] => (aints d).map fun ns => .int ns.sum | _ => none
theorem aints_i {F H : Hp} {v : V} {d : D} {ns : List Int} (s : Same F H) (r : Rp K ad F v d) (h : aints d = some ns) : ∃ p, v = .ref p ∧ (SqL K H p (ns.map V.int) ∨ SqT K H p (ns.map V.int)) := by
  unfold aints at h
  cases e : d.items with
  | none => rw [e] at h; exact nomatch h
  | some xs =>
    rw [e] at h
    have h : D.ints xs = some ns := h
    cases d <;> cases e
    · cases r with | tup h1 k => rw [D.ints_eq h] at k; rw [k.ints] at h1; exact ⟨_, rfl, .inr (sameT s h1)⟩
    · cases r with | lst h1 k => rw [D.ints_eq h] at k; rw [k.ints] at h1; exact ⟨_, rfl, .inl (SqL.of (s _ _ h1))⟩
    · cases r with | sq h1 k => rw [D.ints_eq h] at k; rw [k.ints] at h1; exact ⟨_, rfl, .inl (s.seq h1)⟩
theorem ob_minA : OB K ad (OW.rOr (rMin K) (OW.rMinT K)) gMinA := by
  intro F H vs ds z Q s r e q _
  unfold gMinA at e
  split at e
  · rename_i d
    cases e1 : aints d with
    | none => rw [e1] at e; cases e
    | some ns =>
      rw [e1] at e
      have e : (if ns ≠ [] then some (D.int (minI ns)) else none) = some z := e
      split at e
      · rename_i h
        cases e
        obtain ⟨v, rfl, rv⟩ := one_i r
        obtain ⟨p, rfl, hp | hp⟩ := aints_i s rv e1
        · refine .inl ⟨p, ns, rfl, hp, List.length_pos_iff.mpr h, fun m m1 m2 => ?_⟩
          obtain ⟨a1, a2⟩ := minI_spec h
          rw [show m = minI ns by have := a2 m m1; have := m2 _ a1; omega]
          exact q _ (.int _)
        · exact .inr ⟨p, ns, rfl, hp, h, q _ (.int _)⟩
      · cases e
  · cases e
theorem ob_sumA : OB K ad (OW.rOr (rSum K) (OW.rSumT K)) gSumA := by
  intro F H vs ds z Q s r e q _
  unfold gSumA at e
  split at e
  · rename_i d
    obtain ⟨ns, e1, rfl⟩ := map_some e
    obtain ⟨v, rfl, rv⟩ := one_i r
    obtain ⟨p, rfl, hp | hp⟩ := aints_i s rv e1
    · exact .inl ⟨p, ns, rfl, hp, q _ (.int _)⟩
    · exact .inr ⟨p, ns, rfl, hp, q _ (.int _)⟩
  · cases e
theorem c_minA (hc : X.calm = true) (hu : X.A.units + 64 < cLine) (eK : X.K = K) : CallR X (.builtin "min") (OW.rOr (rMin K) (OW.rMinT K)) := by subst eK; exact OW.cr_or (cr_min hc) (OW.cr_minT hc hu)
theorem c_sumA (hc : X.calm = true) (eK : X.K = K) : CallR X (.builtin "sum") (OW.rOr (rSum K) (OW.rSumT K)) := by subst eK; exact OW.cr_or (cr_sum hc) (OW.cr_sumT hc)
end
end PL
end
section
/-! an exception class over a class over ValueError, whose __init__ says super().__init__(text) and then stores its one value -/
namespace EX
abbrev bmVE : List PySem.Value := [.type "ValueError", .type "Exception", .type "BaseException", .type "object"]
open PySem PySem.Spec PyProof.Rows L2
/-! ### a value told in a text -/
def FmtOk (K : PySem.W.Frag) (v : V) (H : Hp) : Prop := (∃ y : Str, v = .str y ∧ y.length ≤ 3000) ∨ (∃ i : Int, v = .int i ∧ i.natAbs.log2 < 1920) ∨ ∃ (t : Addr) (l : List Int), v = .ref t ∧ SqT K H t (l.map V.int) ∧ l.length ≤ 4 ∧ ∀ i ∈ l, i.natAbs.log2 < 1920
/-- {x}: some text -/
def tFmtA (K : PySem.W.Frag) (te : TE) : TE := fun σ H Q => te σ H fun x H1 => FmtOk K x H1 ∧ ∀ m : Str, m.length ≤ 10000 → Q (.str m) H1
/-! ### the def -/
/-- what is known at the start of the body: its frame, the cell of __class__ -/
def cxX (P : Program) (w : World) (K : PySem.W.Frag) (mg : Str → Option Value) (base : Heap) (N : List Str) (qual : Str) (scope : Scope) (f : Addr) (cd : Value) (cc : Addr) (A : Around) (outer : List Env) (s : Shared) (H : Hp) : Cx where
  prog := P
  w := w
  K := K
  mg := mg
  base := base
  A := A.deeper (PySem.W.ksEnv qual scope s.heap.objs.size f cd cc)
  N := N
  s_0 := s
  H_0 := H
  env := PySem.W.ksEnv qual scope s.heap.objs.size f cd cc
  outer := outer
  stack := PySem.W.ksEnv qual scope s.heap.objs.size f cd cc :: outer
  ex := []
  calm := true
  fn := fun _ => false
  pn := []
  xe := fun _ _ => False
section
variable {P : Program} {w : World} {K : PySem.W.Frag} {mg : Str → Option Value} {base : Heap} {A : Around} {outer : List Env} {s : Shared} {H : Hp} {h₀ : Heap} {N : List Str} {qual : Str} {scope : Scope} {f cc D : Addr} {cd : Value} {σ : L2.St} {t' : Nat} {m : Str → Option Value}
  {cl : Value} {cld : Option Addr} {csl : Array (Option Value)}
end
section
open PySem.W PySem.Calls
variable {A : Around} {prog : Program} {E : Value → Shared → Prop} {w : World}
variable {h : Heap} {g : Array GenState} {d : Drawn} {t : Nat} {os : OsState}
end
abbrev sfS : Str := "self"
/-- the argument's text -/
def tA (K : PySem.W.Frag) : TE := fun σ H Q => ∃ v, σ[1]? = some (some v) ∧ FmtOk K v H ∧ ∀ m : Str, m.length ≤ 11000 → Q (.str m) H
/-- the promise: at a stands a new exception of the class; its field gets the value -/
def spE (K : PySem.W.Frag) (C : Addr) (fld : Str) : Sp := fun vs H Q _ => ∃ (a : Addr) (v : V), vs = [.ref a, v] ∧ H a = some (exo a C none) ∧ FmtOk K v H ∧ ∀ dx, H dx = none → dx ≠ a → Q .non (upd (upd H dx (exd dx [(fld, v)])) a (exo a C (some dx)))
section
open PySem.W PySem.Calls
variable {P : Program} {w : World} {K : PySem.W.Frag} {mg : Str → Option Value} {base : Heap} {k : Nat} {f C cc cda : Addr} {fld x name qual : Str} {params : Arguments} {body : List Stmt} {scope : Scope} {dV kV doc pm ct oc ccl cl : Value} {an od cdd cld : Option Addr} {osl ccs csl : Array (Option Value)}
  {vs : Array Value} {file : Str} {tf : Tok} {cdD : ClassData} {ar : Arg} {p0 p1 p2 p3 p4 q1 q2 q3 q4 : Pos} {e : Expr}
end
section
variable {X : Cx} {scope : Scope} {x a b : Str} {j1 j2 : Nat} {r1 r2 r3 r4 r5 : Pos} {k : Nat}
end
end EX
end
section
namespace OW
open PySem PySem.Spec PyProof.Rows L2
/-! list(o), where o's __iter__ gives the iterator of a tuple -/
section
variable {X : Cx} {pins : List (Addr × Obj)} {σ : L2.St} {H : Hp} {A1 : Around} {t it q : Addr} {zs : List V} {Rs : Result → Shared → Prop}
theorem tit_loop (hh : A1.in1.handled = none) (hq : it ≠ q) (hf : ∀ acc, FpOk X pins (upd H q (.lst acc)) it) (ht : ∀ acc, SqT X.K (upd H q (.lst acc)) t zs)
    (hdone : ∀ s, Inv X pins σ (upd H q (.lst zs)) s → Rs (.ok (.ret .none)) s) :
    ∀ (m i : Nat) (s : Shared), zs.length - i = m → i ≤ zs.length → Inv X pins σ (upd H q (.lst (zs.take i))) s → s.heap.IsTupleIter it t i →
    codeAny (model X.prog X.w) A1 (.builtin "list.extend.loop" ⟨[.ref q, .ref it, .none], []⟩) Rs s := by
  intro m
  induction m with
  | zero =>
    intro i s em hi I st
    have ei : i = zs.length := by omega
    subst ei
    rw [List.take_length] at I
    (refine codeAny_builtin PySem.F.entry_extend_loop ?_)
    (rw [Around.under_plainId PySem.F.plain_extend_loop _])
    show wpAny _ A1.in1 (pyNext (.ref it) >>= _) _ _ s
    obtain ⟨its, rv, p, hz⟩ := I.tuple (ht _)
    have hl := rv.length
    obtain ⟨f0, f1, f2, f3, f4, f5⟩ := hf zs
    refine wpAny_bind (wpAny_pyNext_tuple_end hh st (show s.heap.IsTuple t its.toArray from p) (by simp; omega) fun h' eb => ?_)
    exact wpAny_pure (hdone _ (I.turned (t' := s.toks) (fun b o hb e => eb b o hb e) f0 f1 f3 f4 f5))
  | succ m ih =>
    intro i s em hi I st
    have hlt : i < zs.length := by omega
    (refine codeAny_builtin PySem.F.entry_extend_loop ?_)
    (rw [Around.under_plainId PySem.F.plain_extend_loop _])
    show wpAny _ A1.in1 (pyNext (.ref it) >>= _) _ _ s
    obtain ⟨its, rv, p, hz⟩ := I.tuple (ht _)
    obtain ⟨u, hu, ru⟩ := rv.get (List.getElem?_eq_getElem hlt)
    obtain ⟨f0, f1, f2, f3, f4, f5⟩ := hf (zs.take i)
    refine wpAny_bind (wpAny_pyNext_tuple_item st (show s.heap.IsTuple t its.toArray from p) (x := u) (by simpa using hu) fun h' st' sb => ?_)
    have I1 : Inv X pins σ (upd H q (.lst (zs.take i))) { s with heap := h' } := I.turned (t' := s.toks) (fun b o hb e => (sb.2 b hb).trans e) f0 f1 f3 f4 f5
    (show wpAny _ A1.in1 (updateSeq q (·.push u) >>= _) _ _ _)
    obtain ⟨z, its2, k, r2, hl2, e⟩ := I1.lstM upd_same
    have lt : (zs.take i).length = i := by rw [List.length_take]; omega
    have l2 : its2.length = i := by rw [← r2.length, lt]
    refine wpAny_bind (wpAny_updateSeq e rfl (wpAny_pure ⟨plainId_quiet PySem.F.plain_extend_loop _, ?_⟩) (by rw [List.size_toArray]; omega) (by show (its2.toArray.push u).size ≤ sizeLine + 1; rw [Array.size_push, List.size_toArray]; omega))
    have I2 := I1.lset (f := (·.push u)) (its' := its2 ++ [u]) (ys := zs.take i ++ [zs[i]]) (t' := s.toks) upd_same e (by simp) (r2.append (.cons ru .nil)) (by rw [List.length_append, List.length_singleton]; omega)
    rw [upd_upd, List.take_append_getElem hlt] at I2
    exact ih (i + 1) _ (by omega) hlt I2 (st'.at fun o e => (Heap.get?_update_other _ _ (fun h : q = it => hq h.symm)).trans e)
end
theorem hintless {M : Model} {A : Around} {E : Value → Shared → Prop} {Q : Bool → Shared → Prop} {K : PySem.W.Frag} {C a : Addr} {s : Shared} {ox : Obj} {od : Option Obj} (n1 : PySem.W.findIn K (.ref C) "__len__" = some none) (n2 : PySem.W.findIn K (.ref C) "__length_hint__" = some none)
    (hK : K.In s.heap) (J : PySem.W.InstAt s.heap a ox C od) (h : Q true s) : wpAny M A (Builtin.List.listLengthHint (.ref a)) Q E s := by
  (unfold Builtin.List.listLengthHint)
  refine wpAny_bind (wpAny_bind (J.type.here ((PySem.W.looks_findIn hK n1).here ?_)))
  refine PySem.W.KFB.if_not rfl (PySem.W.KFB.if_not rfl ?_)
  refine wpAny_bind (wpAny_bind (J.type.here ((PySem.W.looks_findIn hK n2).here ?_)))
  exact wpAny_pure h
/-- the list of an own object's tuple -/
def rOwnT (K : PySem.W.Frag) (C : Addr) (sp : Nat → Sp) : List V → Hp → VK → Prop := fun xs H Q => ∃ a dx fs, xs = [.ref a] ∧ H a = some (.ins C dx fs) ∧
  ∀ q n, H q = none → sp n [.ref a] (upd H q (.lst [])) (fun v G => ∃ it t zs, v = .ref it ∧ n ≤ it ∧ upd H q (.lst []) it = none ∧ G = upd (upd H q (.lst [])) it (TIt t it) ∧ (∀ acc, SqT K (upd H q (.lst acc)) t zs) ∧ Q (.ref q) (upd H q (.lst zs))) E0
section
variable {X : Cx} {k : Nat} {C f : Addr} {fd : FuncData} {ps : List Str} {sp : Nat → Sp}
theorem call_listT (hcalm : X.calm = true) (M : Meth X.K C "__iter__" f) (F : FnS X.prog X.w X.K X.mg X.base k f fd ps sp) (room : Room (k + 2) X.A) (bd : Binds X.K fd ps []) (n1 : PySem.W.findIn X.K (.ref C) "__len__" = some none) (n2 : PySem.W.findIn X.K (.ref C) "__length_hint__" = some none) :
    CallR X (.type "list") (rOwnT X.K C sp) := by
  (intro pins s σ H xs us Q I rv h)
  (obtain ⟨a, dx, fs, rfl, ha, hq⟩ := h)
  obtain ⟨u, rfl, ru⟩ := rv.one
  cases ru
  have sb : Sub X k X.A.in1.in1 := (Sub.in1 (Sub.in1 (⟨room, rfl⟩ : Sub X (k + 2) X.A)))
  refine callType_codes (Q₁ := fun obj s₁ => obj = .ref s.heap.objs.size ∧ s₁ = { s with heap := s.heap.push { cls := .type "list", data := .seq #[] } }) PySem.F.called_list (PySem.F.typeCall_list_1 _) PySem.F.entry_list_init (code_list_new _ ⟨rfl, rfl⟩) (fun obj s₁ h₁ => ?_)
  obtain ⟨rfl, rfl⟩ := h₁
  (have hS : (s.heap.push { cls := .type "list", data := .seq #[] }).get? s.heap.objs.size = some { cls := .type "list", data := .seq #[] } := Heap.get?_push_size _ rfl)
  (refine ⟨⟨_, hS, rfl⟩, PySem.F.args_list_init_2 _ _, ?_⟩)
  (have fr : H s.heap.objs.size = none := I.hok.fresh (Nat.le_refl _))
  (have I1 : Inv X pins σ (upd H s.heap.objs.size (.lst [])) { s with heap := s.heap.push { cls := .type "list", data := .seq #[] } } := I.lnew (its := []) (t' := s.toks) .nil (Nat.zero_le _))
  (show wpAny _ _ (do let old ← Builtin.List.listItems (.ref s.heap.objs.size); Builtin.List.listUpdate (.ref s.heap.objs.size) (fun _ => #[]); letGo old.toList.reverse; Builtin.List.listExtendWith (.ref s.heap.objs.size) (.ref a) .none) _ _ _)
  refine wpAny_bind ?_
  unfold Builtin.List.listItems
  (refine wpAny_bind (wpAny_seqItems hS rfl (wpAny_pure ?_)))
  (show wpAny _ _ (updateSeq s.heap.objs.size (fun _ => #[]) >>= fun _ => letGo (#[] : Array Value).toList.reverse >>= fun _ => Builtin.List.listExtendWith (.ref s.heap.objs.size) (.ref a) .none) _ _ _)
  (refine wpAny_bind (wpAny_updateSeq hS rfl ?_))
  (have I2 := I1.lset (f := fun _ => #[]) (its := []) (its' := []) (ys := []) (t' := s.toks) upd_same hS rfl .nil (Nat.zero_le _))
  rw [upd_upd] at I2
  (refine wpAny_bind (wpAny_letGo ?_))
  have hne : s.heap.objs.size ≠ a := fun z => by rw [← z, fr] at ha; cases ha
  (have ha2 : upd H s.heap.objs.size (.lst []) a = some (.ins C dx fs) := by rw [upd_ne (ne_of_none ha fr)]; exact ha)
  generalize s.heap.objs.size = q at *
  generalize ({ s with heap := _ } : Shared) = s₁ at I2
  have hq := hq q s₁.heap.objs.size fr
  obtain ⟨ox, od, J⟩ := inst I2 ha2
  obtain ⟨m', hF⟩ := I2.fr
  (unfold Builtin.List.listExtendWith)
  (refine wpAny_bind (J.type.here ?_))
  (have h1 : Builtin.List.listSameRef (.ref q) (.ref a) = false := by simp [Builtin.List.listSameRef, hne])
  (have h2 : (Value.ref C == Value.type "list") = false := rfl)
  (have h3 : (Value.ref C == Value.type "tuple") = false := rfl)
  (simp only [h1, h2, h3, Bool.or_false, Bool.false_eq_true, if_false])
  refine wpAny_bind (PySem.W.owit_iter hF I2.ok.mod.kin J M.at_ M.fn ?_)
  have e0 : Env0 X.prog X.w X.K X.mg X.base X.A.in1.in1 X.stack s₁ (upd H q (.lst [])) := by
    have e := I2.env0
    (exact ⟨by rw [sb.fr]; exact e.frames, e.mod, e.bs, e.bsz, e.funs, e.frf, e.hok, e.bare⟩)
  have len := (F.len _ _ _ _ _ hq)
  refine wpAny_call (codeAny_mono (F.run X.A.in1.in1 X.stack s₁ _ ⟨[.ref a], []⟩ [.ref a] [.ref a] _ E0 sb.room e0 (bd s₁ [.ref a] I2.kIn (by simpa using len)) (.cons rfl .nil) hq) fun r s2 hr => ?_)
  cases r with
  | error er => exact hr.elim
  | ok fl =>
    cases fl with
    | ret u =>
      obtain ⟨v, G3, I3, rv, it, t, zs, ev, young, frI, eG, hsq, hQ⟩ := I2.after hr
      subst ev eG
      cases rv
      have hx : upd (upd H q (.lst [])) it (TIt t it) it = some (TIt t it) := upd_same
      have st : s2.heap.IsTupleIter it t 0 := (I3.hok it _ hx).1
      have tyI : s2.TypeIs (.ref it) "tuple_iterator" := st.typeIs
      change PySem.W.OwitIt _ _ _ _ (.ref it) s2
      unfold PySem.W.OwitIt
      refine wpAny_specialOf (name := "__next__") tyI PySem.F.slot_tuple_iterator_next.lookup ?_
      have I4 := ItX.inv_drop I3 hx
      have gone : ItX.dropH (upd (upd H q (.lst [])) it (TIt t it)) it = upd H q (.lst []) := ItX.dropH_upd frI
      rw [gone] at I4
      have niq : it ≠ q := fun z => by rw [z, upd_same] at frI; cases frI
      have nia : it ≠ a := fun z => by rw [z, ha2] at frI; cases frI
      have fp : ∀ acc, FpOk X pins (upd H q (.lst acc)) it := fun acc => by
        have z := ItX.inv_fp I3 hx (Nat.le_trans I2.sz young)
        rw [gone] at z
        obtain ⟨z0, z1⟩ := z
        refine ⟨?_, z1⟩
        rw [upd_ne niq] at z0 ⊢
        exact z0
      obtain ⟨ox', od', J'⟩ := inst I4 ha2
      refine wpAny_bind (wpAny_holding (hintless n1 n2 I4.kIn J' ?_))
      obtain ⟨z, its, k3, r3, hl3, e3⟩ := I4.lstM upd_same
      cases r3
      have fin : ∀ (c : Nat) (s' : Shared), Inv X pins σ (upd H q (.lst [])) s' → s'.heap.IsTupleIter it t 0 → codeAny (model X.prog X.w) X.A.in1 (.builtin "list.extend.loop" ⟨[.ref q, .ref it, .none], []⟩) (wants (fun r s₂ => r = .none ∧ EP X pins σ Q (.ref q) s₂) X.xe) s' := fun c s' I' st' =>
        tit_loop (A1 := X.A.in1) (Rs := wants (fun r s₂ => r = .none ∧ EP X pins σ Q (.ref q) s₂) X.xe) (I2.ok.hd hcalm) niq fp hsq (fun s'' I'' => ⟨rfl, .ref q, _, I'', rfl, hQ⟩) _ 0 s' rfl (Nat.zero_le _) (by simpa using I') st'
      refine wpAny_ite_split (fun _ => ?_) (fun _ => wpAny_pure ⟨plainId_quiet PySem.F.plain_extend_loop _, fin 0 _ I4 st⟩)
      (refine wpAny_bind (wpAny_rule ?_))
      refine wpAny_bind ?_
      (show wpAny _ _ (updateSeq q (·.push .none) >>= fun _ => updateSeq q (·.pop)) _ _ _)
      (refine wpAny_bind (wpAny_updateSeq e3 rfl ?_))
      have I5 := I4.lset (f := (·.push Value.none)) (its' := [Value.none]) (ys := [.non]) (t' := s2.toks) upd_same e3 (by simp) (.cons rfl .nil) (by rw [List.length_singleton, sizeLine_eq]; decide)
      obtain ⟨z4, its4, k4, r4, hl4, e4⟩ := I5.lstM upd_same
      (obtain ⟨u4, rfl, ru4⟩ := r4.one)
      (refine wpAny_updateSeq e4 rfl ?_ (by show 1 ≤ sizeLine; rw [sizeLine_eq]; decide) (by show 0 ≤ sizeLine + 1; exact Nat.zero_le _))
      have I6 := I5.lset (f := (·.pop)) (its := [u4]) (its' := []) (ys := []) (t' := s2.toks) upd_same e4 (by rfl) .nil (Nat.zero_le _)
      rw [upd_upd, upd_upd] at I6
      exact wpAny_pure ⟨plainId_quiet PySem.F.plain_extend_loop _, fin 0 _ I6 (st.at fun o e => (Heap.get?_update_other _ _ (Ne.symm niq)).trans ((Heap.get?_update_other _ _ (Ne.symm niq)).trans e))⟩
    | next => exact False.elim hr
    | brk => exact False.elim hr
    | cont => exact False.elim hr
end
end OW
end
section
set_option maxHeartbeats 3200000
namespace OW
open PySem PySem.Spec PyProof.Rows L2
/-! set(xs), xs a list of ints; sorted(set(xs)) -/
section
variable {w : World} {P : Program} {A : Around} {s : Shared} {E : Value → Shared → Prop}
/-- the set object before anything is in it -/
abbrev newSet (w : World) : Obj := { cls := .type "set", dict := none, data := .set #[] 0 (.fresh 0 0 (!w.params.followText "set-order")) }
end
/-- set(xs): where it stands, what is in it -/
def PSt (X : Cx) (e : Expr) (t : L2.St → Hp → (List Int → Hp → Prop) → Prop) : Prop := ∀ (pins : List (Addr × Obj)) (s : Shared) (σ : L2.St) (H : Hp) (Q : List Int → Hp → Prop), Inv X pins σ H s → t σ H Q →
  wpAny (model X.prog X.w) X.A (eval e X.env) (fun v s' => ∃ (a : Addr) (ns : List Int) (n : Nat) (H1 : Hp), v = .ref a ∧ SetR X.w s'.heap a (fun j => decide (j ∈ ns)) n ∧ n ≤ ns.length ∧ Inv X pins σ H1 s' ∧ Q ns H1) X.xe s
def tSt (K : PySem.W.Frag) (ta : TE) : L2.St → Hp → (List Int → Hp → Prop) → Prop := fun σ H Q => ta σ H fun x H1 => ∃ (p : Addr) (ns : List Int), x = .ref p ∧ SqL K H1 p (ns.map V.int) ∧ ns.length ≤ 60 ∧ Q ns H1
section
variable {X : Cx} {e : Expr} {ta : TE} {p pos : Pos}
def tSrtSt (te : L2.St → Hp → (List Int → Hp → Prop) → Prop) : TE := fun σ H Q => te σ H fun ns H1 => ns.length ≤ 60 ∧ ∀ q (ms : List Int), H1 q = none → ms.Pairwise (· < ·) → (∀ k, k ∈ ms ↔ k ∈ ns) → Q (.ref q) (upd H1 q (.lst (ms.map V.int)))
end
end OW
end
section
namespace OW
open PySem PySem.Spec PyProof.Rows L2
/-! o(..), o an own object with __call__ -/
section
variable {M : Model} {A : Around} {s : Shared} {env : Env} {E : Value → Shared → Prop}
end
def tCO (C : Addr) (sp : Sp) (E : L2.St → XK) (ta : TE) (t : TA) : TE := fun σ H Q => ta σ H fun x H1 => ∃ a dx fs, x = .ref a ∧ H1 a = some (.ins C dx fs) ∧ t σ H1 fun vs H2 => H2 a = some (.ins C dx fs) ∧ sp (.ref a :: vs) H2 Q (E σ)
end OW
end
section
/-! zip of two texts -/
namespace OW
open PySem PySem.Spec PyProof.Rows L2
/-- two texts, sign by sign, in new pairs -/
def ItzS (a b : Str) : It :=
  ⟨fun i _ => i < a.cps.size ∧ i < b.cps.size, fun i H v H' => ∃ T c d, v = .ref T ∧ H T = none ∧ H' = upd H T (.tup [.str ⟨#[c]⟩, .str ⟨#[d]⟩]) ∧ a.cps[i]? = some c ∧ b.cps[i]? = some d,
    fun i _ => a.cps.size ≤ i ∨ b.cps.size ≤ i⟩
def iZipS (ta : TA) : TI := fun σ H R => ta σ H fun vs H1 => ∃ a b, vs = [.str a, .str b] ∧ R (ItzS a b) H1
end OW
namespace PL
open PySem PySem.Spec PyProof.Rows L2
variable {K : PySem.W.Frag} {ct : CT} {W : WX} {F : Hp} {X : Cx}
def itZS (a b : Ev) : M (List D) := bnd (dat a) fun x => bnd (dat b) fun y => match x, y with
  | .str s, .str t => pur (zipD (chars s) (chars t))
  | _, _ => fai
end PL
end
section
/-! exceptions with a value of their own -/
namespace PL
open PySem PySem.Spec PyProof.Rows L2
variable {K : PySem.W.Frag} {ad : Cl → Addr} {ct : CT}
variable {fr : Fr} {F F' H H' : Hp} {σ : L2.St} {ρ : List Sl} {W : WX}
/-- a value that may be told in a text -/
def fmtD : D → Bool
  | .str y => decide (y.length ≤ 3000)
  | .int k => decide (k.natAbs.log2 < 1920)
  | .tup xs => match D.ints xs with | some l => decide (l.length ≤ 4) && l.all fun i => decide (i.natAbs.log2 < 1920) | none => false
  | _ => false
def evRaiseP (c : Cl) (m : Ev) : M Fl := bnd (dat m) fun d => if fmtD d = true then (fun ρ => some (.er c (some d), ρ)) else fai
/-! ### list(o) of an own object, list.clear -/
def gLstO (c : Cl) (i : Nat) : List D → Option CC
  | [.obj c' xs] => if c' = c then (match xs[i]? with | some (.tup ys) => some (.lst ys) | _ => none) else none
  | _ => none
theorem ob_lstO {f : Str} (c : Cl) (i : Nat) (hi : c.fn.findIdx? (fun k => f == k) = some i := by decide) : OBc K ad (OW.rOwnT K (ad c) (spIt K (ad c) f)) (gLstO c i) := by
  intro F H vs ds z Q s r e q
  unfold gLstO at e
  split at e
  · rename_i c' xs
    split at e
    · rename_i ec
      subst ec
      split at e
      · rename_i ys e1
        cases e
        obtain ⟨v, rfl, rv⟩ := one_i r
        cases rv with
        | @obj p dx _ vs _ h1 l1 k1 =>
          obtain ⟨w, g1, g2⟩ := k1.get e1
          cases g2 with
          | @tup t us _ h2 k2 =>
            refine ⟨p, dx, _, rfl, s _ _ h1, fun l n hl => ?_⟩
            have s2 : ∀ acc, Same F (upd H l (.lst acc)) := fun acc => s.trans (same_up hl)
            refine ⟨p, dx, t, _, us, rfl, s2 _ _ _ h1, by rw [look_zip l1 hi, g1], sameT (s2 _) h2, fun it fresh young => ⟨it, t, us, rfl, young, fresh, rfl, fun acc => sameT (s2 _) h2, q l _ hl fun _ => ⟨_, upd_same, k2⟩⟩⟩
      · cases e
    · cases e
  · cases e
def fClr : List D → List D → Option (D × List D) | _, [] => some (.non, []) | _, _ => none
/-! ### sorted(xs), xs a list of pairs of ints -/
def pD (k : Int × Int) : D := .tup [.int k.1, .int k.2]
def prs : List D → Option (List (Int × Int))
  | [] => some []
  | .tup [.int a, .int b] :: r => (prs r).map ((a, b) :: ·)
  | _ => none
/-- the order of pairs -/
def PLe (a b : Int × Int) : Prop := a.1 < b.1 ∨ (a.1 = b.1 ∧ a.2 ≤ b.2)
instance (a b : Int × Int) : Decidable (PLe a b) := by unfold PLe; infer_instance
def insP (k : Int × Int) : List (Int × Int) → List (Int × Int)
  | [] => [k]
  | x :: r => if PLe k x then k :: x :: r else x :: insP k r
def srtP : List (Int × Int) → List (Int × Int)
  | [] => []
  | k :: r => insP k (srtP r)
theorem Rps.at_ {us : List V} {ds : List D} (r : Rps K ad F us ds) : ∀ x ∈ us, ∃ d ∈ ds, Rp K ad F x d := by
  induction us generalizing ds with
  | nil => intro x hx; simp at hx
  | cons u us ih =>
    intro x hx
    cases r with
    | cons a t =>
      rcases List.mem_cons.mp hx with e | e
      · subst e; exact ⟨_, List.mem_cons_self, a⟩
      · obtain ⟨d, hd, q⟩ := ih t x e
        exact ⟨d, List.mem_cons_of_mem _ hd, q⟩
theorem Rps.back {us : List V} {ds : List D} (r : Rps K ad F us ds) : ∀ d ∈ ds, ∃ x ∈ us, Rp K ad F x d := by
  induction us generalizing ds with
  | nil => cases r; intro x hx; simp at hx
  | cons u us ih =>
    cases r with
    | cons a t =>
      intro d hd
      rcases List.mem_cons.mp hd with e | e
      · subst e; exact ⟨_, List.mem_cons_self, a⟩
      · obtain ⟨d, hd, q⟩ := ih t d e
        exact ⟨d, List.mem_cons_of_mem _ hd, q⟩
def unD : D → Int × Int | .tup [.int a, .int b] => (a, b) | _ => (0, 0)
def gSrtP : List D → Option CC
  | [.lst xs] => match prs xs with
    | some ks => if ks.length < 64 ∧ ∀ k ∈ ks, (0 ≤ k.1 ∧ k.1 < 1000) ∧ 0 ≤ k.2 ∧ k.2 < 1000 then some (.lst ((srtP ks).map pD)) else none
    | none => none
  | _ => none
/-! ### C.m(..), m a classmethod that raises -/
section
variable {X : Cx} {CX : CXT} {k : Nat} {f q : Addr} {fd : FuncData} {ps : List Str} {x m : Str} {p pos apos : Pos} {e o : Expr} {es : List Expr} {n : Nat} {G : Fn} {as : List AE} {mc : Value} {sp : Sp}
def tCMS (C : Addr) (sp : Sp) (E : L2.St → XK) (ta : TE) (t : TA) : TE := fun σ H Q => ta σ H fun x H1 => x = .ref C ∧ t σ H1 fun vs H2 => sp (.ref C :: vs) H2 Q (E σ)
def evCallCS (n : Nat) (G : Fn) (c : Cl) (as : List AE) : Ev := bnd (evAs as) fun ar => callG n G (.d (.cl c) :: ar)
end
/-! ### xs[e], xs a cell that e leaves as it is, though it may change others -/
def evIxL (j : Nat) (e : Ev) : Ev := bnd (isL j) fun _ => bnd (dat e) fun d => fun ρ => match d, ρ[j]? with
  | .int i, some (.cel _ (.lst xs)) => (match atI xs i with | some z => some (.ok (.d z), ρ) | none => none)
  | _, _ => none
/-! ### list(range(a, b)), sorted(set(xs)) -/
def evLstRg (fa fb : Ev) : Ev := bnd (dat fa) fun x => bnd (dat fb) fun y => match x, y with
  | .int i, .int j => if -(2 ^ 62) ≤ i ∧ i < 2 ^ 62 ∧ -(2 ^ 62) ≤ j ∧ j < 2 ^ 62 ∧ (j - i).toNat ≤ 2 ^ 24 then pur (.c (.lst (rngD i (j - i).toNat))) else fai
  | _, _ => fai
def insI (k : Int) : List Int → List Int
  | [] => [k]
  | x :: r => if k < x then k :: x :: r else if k = x then x :: r else x :: insI k r
def srtI : List Int → List Int
  | [] => []
  | k :: r => insI k (srtI r)
def evSrtSt (fe : Ev) : Ev := bnd (dat fe) fun d => match d with
  | .lst xs => (match D.ints xs with | some ns => if ns.length ≤ 60 then pur (.c (.lst ((srtI ns).map .int))) else fai | none => fai)
  | _ => fai
/-! ### a global that is a tuple of constants -/
def KTup (K : PySem.W.Frag) (a : Addr) (xs : List V) : Prop := ∃ (o : Obj) (its : Array Value) (n : Nat), K.lookup a = some o ∧ o.cls = .type "tuple" ∧ o.data = .seq its n ∧ its.size ≤ sizeLine ∧ Vals xs its.toList
def cstV : D → Option V | .int i => some (.int i) | .str s => some (.str s) | .bl b => some (.bl b) | .non => some .non | _ => none
def cstVs : List D → Option (List V) | [] => some [] | d :: ds => (cstV d).bind fun v => (cstVs ds).map (v :: ·)
/-! ### o(..), o an own object with __call__ -/
section
variable {X : Cx} {CX : CXT} {k : Nat} {f : Addr} {fd : FuncData} {ps : List Str} {x : Str} {p pos : Pos} {e : Expr} {es : List Expr} {n : Nat} {G : Fn} {as : List AE}
end
end PL
end
section
namespace SCS
open PySem PySem.Spec PyProof.Rows L2
/-! sorted(a set of ints), any number of them -/
section
variable {w : World} {P : Program} {A : Around} {s : Shared} {E : Value → Shared → Prop} {a : Addr} {S : Int → Bool} {n : Nat} {Q : Value → Shared → Prop}
end
section
variable {X : Cx}
def rSrtI (w : World) : List V → Hp → VK → Prop := fun vs H Q => ∃ (a : Addr) (S : Int → Bool) (n : Nat), vs = [V.ref a] ∧ H a = some (SetO w a S n) ∧ n < scanBound ∧ ∀ (ns : List Int) (p : Addr), ns.Pairwise (· < ·) → (∀ k, k ∈ ns ↔ S k = true) → H p = none → Q (.ref p) (upd H p (.lst (ns.map V.int)))
end
end SCS
end
section
namespace SC2
open PySem PySem.Spec PyProof.Rows L2
/-! {x for a in p if .. for b in q if ..}, x an int -/
abbrev two (x a p : Expr) (fs : List Expr) (b q : Expr) (gs : List Expr) (sc : Scope) (w : Pos) : Expr := .SetComp x [⟨a, p, fs, 0⟩, ⟨b, q, gs, 0⟩] sc w
/-- a loop over J from τ: body is what a turn does whose tests hold; out: what is true behind it -/
def Go (J : It) (g : TG) (tt : TT) (vs : List Nat) (τ : L2.St) (body : L2.St → Hp → (Hp → Prop) → Prop) (out : Hp → Prop) (G0 : Hp) : Prop := ∃ W : Nat → Nat → Hp → Prop, (∃ m, W 0 m G0) ∧ ∀ i m G, W i m G → (J.stop i G ∧ out G) ∨ (J.go i G ∧ ∃ N : Hp → Prop, (∀ G', N G' → ∃ m', m' < m ∧ W (i + 1) m' G') ∧
  ∀ u G', J.yld i G u G' → g u (wipe τ vs) G' fun τ2 G2 => wipe τ2 vs = wipe τ vs ∧ tt τ2 G2 fun yes G3 => if yes = true then body τ2 G3 N else N G3)
def AddTo (w : World) (D : Addr) (y : V) (G : Hp) (N : Hp → Prop) : Prop := ∃ (k : Int) (S : Int → Bool) (n : Nat), y = .int k ∧ G D = some (SetO w D S n) ∧ n + 1 < scanBound ∧ N (upd G D (SetO w D (fun j => S j || decide (j = k)) (if S k = true then n else n + 1)))
def tSc2 (w : World) (wi : TI) (g : TG) (tt : TT) (wi1 : TI) (g1 : TG) (tt1 : TT) (te : TE) (vs vs1 : List Nat) : TE := fun σ H Q => wi σ H fun J H1 => ∀ D, H1 D = none →
  Go J g tt vs σ (fun τ G N => wi1 τ G fun J1 G1 => Go J1 g1 tt1 vs1 τ (fun τ1 G2 N1 => te τ1 G2 fun y G3 => AddTo w D y G3 N1) N G1) (fun G => Q (.ref D) G) (upd H1 D (SetO w D (fun _ => false) 0))
section
variable {Y : Cx} {pins : List (Addr × Obj)} {τ : L2.St} {G : Hp} {z : Shared} {tg : Expr} {J : It} {fp : List Addr} {it D : Addr} {tn : Nat → Heap → Prop} {g : TG} {tt : TT} {vs : List Nat} {fs : List Expr}
/-- one loop: where it stands, how it goes on -/
structure Here (Y : Cx) (pins : List (Addr × Obj)) (τ : L2.St) (tn : Nat → Heap → Prop) (fp : List Addr) (W : Nat → Nat → Hp → Prop) (m : Nat) (z : Shared) (i : Nat) (G : Hp) : Prop where
  inv : Inv Y pins τ G z
  st : tn i z.heap
  dark : ∀ b ∈ fp, G b = none
  w : W i m G
theorem Here.feet {W : Nat → Nat → Hp → Prop} {m i : Nat} (h : Here Y pins τ tn fp W m z i G) {G0 : Hp} (f : ∀ b ∈ fp, FpOk Y pins G0 b) : ∀ b ∈ fp, FpOk Y pins G b := fun b hb => ⟨h.dark b hb, (f b hb).2⟩
/-- a turn's item is there and stored, its tests are done -/
theorem item {W : Nat → Nat → Hp → Prop} {m i : Nat} {body : L2.St → Hp → (Hp → Prop) → Prop} {G0 : Hp} {R : Option Value → Shared → Prop} {no : Value → Shared → Prop} (calm : Y.calm = true) (T : Turn Y.prog Y.w Y.K tg J fp it tn) (f : ∀ b ∈ fp, FpOk Y pins G0 b) (pg : PG Y tg g) (pt : PTs Y fs tt) (hx : Y.xe = fun _ _ => False)
    (h : Here Y pins (wipe τ vs) tn fp W m z i G) (go : J.go i G) {N : Hp → Prop} (next : ∀ G', N G' → ∃ m', m' < m ∧ W (i + 1) m' G') (step : ∀ u G', J.yld i G u G' → g u (wipe τ vs) G' fun τ2 G2 => wipe τ2 vs = wipe τ vs ∧ tt τ2 G2 fun yes G3 => if yes = true then body τ2 G3 N else N G3)
    (k : ∀ u z1, wpAny (model Y.prog Y.w) Y.A (letOwnedTupleGo tg (.ref it) u) (fun _ z2 => wpAny (model Y.prog Y.w) Y.A (assign tg Y.env u) (fun _ z3 => wpAny (model Y.prog Y.w) Y.A (forIn fs true fun c r => if r = true then do let ok ← isTrue c Y.env (eval c Y.env); pure (ForInStep.yield ok) else pure (ForInStep.yield r)) (fun yes z4 =>
        ∃ (zs : Shared) (τ2 : L2.St) (G2 G3 : Hp), (∀ b ∈ fp, ∃ o, zs.heap.get? b = some o) ∧ (∀ h', (∀ b ∈ fp, ∀ o, zs.heap.get? b = some o → h'.get? b = some o) → tn (i + 1) h') ∧ wipe τ2 vs = wipe τ vs ∧ Inv Y (pins ++ pinsAt fp zs.heap) τ2 G3 z4 ∧ (if yes = true then body τ2 G3 N else N G3)) no z3) no z2) no z1 → R (some u) z1) : wpAny (model Y.prog Y.w) Y.A (pyNext (.ref it)) R no z := by
  have none' : ∀ {e : Value} {y : Shared} {P : Prop}, Y.xe e y → P := fun {e y P} h => (show False from by rw [hx] at h; exact h).elim
  refine wpAny_mono (T.item Y rfl rfl rfl calm i pins z _ G (fun _ _ => False) h.inv (h.feet f) h.st go) ?_ fun _ _ n => n.elim
  rintro _ z1 ⟨u, rfl, h1⟩
  refine k u z1 (wpAny_mono h1 ?_ fun _ _ n => n.elim)
  rintro _ z2 ⟨x, G2, I2, r2, y2, st2, d2⟩
  have I3 := I2.pinned (fun b hb => ⟨d2 b hb, (f b hb).2⟩) (T.obj _ _ st2)
  refine wpAny_mono (pg.run _ z2 _ G2 x u _ I3 r2 (step x G2 y2)) ?_ fun _ _ n => none' n
  rintro _ z3 ⟨τ2, G4, I4, ew, q4⟩
  refine wpAny_mono (pt.run _ z3 τ2 G4 _ I4 q4) ?_ fun _ _ n => none' n
  rintro yes z4 ⟨G5, I5, q5⟩
  exact ⟨z2, τ2, G4, G5, fun b hb => (T.obj _ _ st2 b hb).imp fun _ e => e.1, fun h' kp => T.keep _ _ _ st2 kp, ew, I5, q5⟩
end
/-- the parts, wherever the block begins -/
structure Sides (X : Cx) (sc : Scope) (x a : Expr) (fs : List Expr) (b q : Expr) (gs : List Expr) (g : TG) (tt : TT) (wi1 : TI) (g1 : TG) (tt1 : TT) (te : TE) : Prop where
  hg : ∀ t G C cl fp, PG (X.blk t G sc (compEnvC sc cl C X.env) fp) a g
  ht : ∀ t G C cl fp, PTs (X.blk t G sc (compEnvC sc cl C X.env) fp) fs tt
  hi : ∀ t G C cl fp, PI (X.blk t G sc (compEnvC sc cl C X.env) fp) b q wi1
  hg1 : ∀ t G C cl fp, PG (X.blk t G sc (compEnvC sc cl C X.env) fp) b g1
  ht1 : ∀ t G C cl fp, PTs (X.blk t G sc (compEnvC sc cl C X.env) fp) gs tt1
  he : ∀ t G C cl fp, PE (X.blk t G sc (compEnvC sc cl C X.env) fp) x te
section
variable {X : Cx} {H : Hp} {pins : List (Addr × Obj)} {s : Shared} {σ : L2.St}
end
end SC2
end
section
namespace PL
open PySem PySem.Spec PyProof.Rows L2 SC2
variable {K : PySem.W.Frag} {ct : CT} {fr : Fr} {F H : Hp} {σ : L2.St} {ρ : List Sl} {W : WX} {X : Cx}
/-! ### r = range(a, b), then ys = sorted({e for x in xs if .. for y in r if ..}) -/
/-- the walk over a range that stands somewhere -/
def iRngO (te : TE) : TI := fun σ H R => te σ H fun x H1 => ∃ (p : Addr) (lo hi : Int), x = .ref p ∧ H1 p = some (.rng lo hi) ∧ (-(2 ^ 62) ≤ lo ∧ lo < 2 ^ 62 ∧ -(2 ^ 62) ≤ hi ∧ hi < 2 ^ 62) ∧ R (Itr lo (hi - lo).toNat) H1
def tRngV (ta : TA) : TE := fun σ H Q => ta σ H fun vs H1 => ∃ i j : Int, vs = [.int i, .int j] ∧ ∀ q, H1 q = none → Q (.ref q) (upd H1 q (.rng i j))
/-- the protection ends, what was protected is forgotten -/
theorem Rel.bare {D : Addr} {o : HO} (hP : fr.P D = none) (S : Rel K ct (fr.prot D o) F H σ ρ) : Rel K ct fr F H σ ρ := by
  have low : ∀ {p : Addr}, (fr.prot D o).P p = none → fr.P p = none := fun {p} z => by
    have z : upd fr.P D o p = none := z
    by_cases q : p = D
    · rw [q]; exact hP
    · exact (upd_ne q).symm.trans z
  refine ⟨S.len, S.fh, fun i s e => ?_, S.dis, fun b u e => S.keep b u ((upd_ne fun z => by rw [z, hP] at e; cases e).trans e), fun b hb h0 => ?_, S.pcs⟩
  · obtain ⟨u, g1, g2⟩ := S.slot i s e
    refine ⟨u, g1, ?_⟩
    cases s with
    | cel k c => obtain ⟨p, a1, a2, a3, rest⟩ := g2; exact ⟨p, a1, a2, low a3, rest⟩
    | un => trivial
    | dat d => exact g2
    | exn c pl => exact g2
  · have q : b ≠ D := fun z => hb (z ▸ hP)
    exact S.fro b (fun z => hb ((upd_ne q).symm.trans z)) ((if_neg q).trans h0)
def evSc2 (vs : List Nat) (it : M (List D)) (tg : Tg) (c : M Bool) (lo hi : Int) (vs1 : List Nat) (tg1 : Tg) (c1 : M Bool) (e : Ev) : Ev := bnd (evLc2 vs it tg c (pur (rngD lo (hi - lo).toNat)) vs1 tg1 c1 e) fun r => match r with
  | .c (.lst xs) => (match D.ints xs with | some ns => if ns.length < 4000 then pur (.c (.lst ((srtI ns).map .int))) else fai | none => fai)
  | _ => fai
def evRng2 (i : Nat) (fa fb : Ev) (k : Int → Int → M Fl) : M Fl := bnd (dat fa) fun x => bnd (dat fb) fun y => match x, y with
  | .int lo, .int hi => if -(2 ^ 62) ≤ lo ∧ lo < 2 ^ 62 ∧ -(2 ^ 62) ≤ hi ∧ hi < 2 ^ 62 then (fun ρ => match ρ[i]? with
    | some (.cel .par _) => none
    | some _ => k lo hi (ρ.set i .un)
    | none => none) else fai
  | _, _ => fai
/-- what the set holds, and how many they are at most -/
def InSet (Sx : Int → Bool) (n : Nat) (acc : List D) : Prop := (∀ k, Sx k = true ↔ D.int k ∈ acc) ∧ n ≤ acc.length
theorem Sat.seq {D : Ends} {s t : M Fl} (h : Sat K ct W D fr F ρ (evSeq s t)) : Sat K ct W { D with nx := TSt K ct W t D } fr F ρ s := by
  obtain ⟨r, ρ', e, q⟩ := h
  unfold evSeq at e
  cases es : s ρ with
  | none => rw [es] at e; cases e
  | some x =>
    obtain ⟨r1, ρ1⟩ := x
    rw [es] at e
    refine ⟨r1, ρ1, es, ?_⟩
    cases r1 with
    | er c pl => cases e; exact q
    | ok fl =>
      cases fl with
      | nx => exact fun σ1 F1 H1 s1 S1 => ⟨fr, F1, ρ1, S1, Sat.mono ⟨r, ρ', e, q⟩ s1⟩
      | bk => cases e; exact q
      | ct => cases e; exact q
      | rt x => cases e; exact q
theorem Sat.asgT {D : Ends} {j : Nat} {m : Ev} (h : Sat K ct W D fr F ρ (evAsg j m)) : Tat K ct (RV K ct.ad) W fr F ρ m σ fun y H2 => D.nx (σ.set j (some y)) H2 := by
  obtain ⟨r, ρ', e, q⟩ := h
  have fin : ∀ {d : PL.D} {ρ1 : List Sl}, PL.setD j d ρ1 = some (r, ρ') → ∀ v F' H', Same F F' → Rel K ct fr F' H' σ ρ1 → Rp K ct.ad F' v d → D.nx (σ.set j (some v)) H' := fun {d ρ1} e v F' H' s' S' r' => by
    have e9 := e
    unfold PL.setD at e
    split at e
    · cases e
    · cases e
      exact q _ F' H' s' (setD_ok e9 S' r')
    · cases e
  unfold evAsg PL.bnd PL.dat PL.bnd at e
  cases em : m ρ with
  | none => rw [em] at e; cases e
  | some x =>
    obtain ⟨r1, ρ1⟩ := x
    rw [em] at e
    refine ⟨r1, ρ1, em, ?_⟩
    cases r1 with
    | er c pl => cases e; exact fun d F' H' s' S' pr => q σ d F' H' s' S' pr
    | ok a =>
      cases a with
      | d d => exact fun v F' H' s' S' r' => fin e v F' H' s' S' r'
      | c c =>
        refine fun v F' H' s' S' ⟨a, ev, fp⟩ => ?_
        subst ev
        cases ef : c.froz with
        | none =>
          have e : PL.bnd (PL.opt c.froz) (fun d => PL.setD j d) ρ1 = some (r, ρ') := e
          rw [ef] at e
          cases e
        | some d =>
          have e : PL.bnd (PL.opt c.froz) (fun d => PL.setD j d) ρ1 = some (r, ρ') := e
          rw [ef] at e
          obtain ⟨F2, s2, rp, S2⟩ := fp.frz S' ef
          exact fin e _ F2 H' (s'.trans s2) S2 rp
/-- a new list, or data: the slot keeps which -/
def evAsgX (i : Nat) (e : Ev) : M Fl := bnd e fun r => match r with | .c c => PL.setC i c | .d d => PL.setD i d
end PL
end
section
namespace PL
open PySem PySem.Spec PyProof.Rows L2
variable {K : PySem.W.Frag} {ct : CT} {W : WX} {X : Cx}
/-! ### methods of texts that only read: find, rfind -/
variable (K ct) in
def OSm (r : V → List V → Hp → VK → Prop) (g : Str → List D → Option D) : Prop := ∀ {F H : Hp} {a : Str} {vs : List V} {ds : List D} {z : D} {Q : VK}, Rps K ct.ad F vs ds → g a ds = some z → (∀ v, Rp K ct.ad F v z → Q v H) → r (.str a) vs H Q
def evTxm (g : Str → List D → Option D) (o : Ev) (es : List DE) : Ev := bnd (dat o) fun x => match x with
  | .str a => bnd (evDs es) fun ds => opt ((g a ds).map Rv.d)
  | _ => fai
def gFind1 (a : Str) : List D → Option D | [.str b] => some (.int (Txt.find a b)) | _ => none
def gFind3 (a : Str) : List D → Option D | [.str b, .int i] => some (.int (Txt.find3 a b i)) | _ => none
def gRfind4 (a : Str) : List D → Option D | [.str b, .int i, .int j] => some (.int (Txt.rfindIn a b i j)) | _ => none
theorem os_find3 : OSm K ct (fun x xs H Q => ∃ (a b : Str) (i : Int), x = .str a ∧ xs = [.str b, .int i] ∧ Q (.int (Txt.find3 a b i)) H) gFind3 := by
  intro F H a vs ds z Q r e q
  unfold gFind3 at e
  split at e
  · cases e
    cases r with
    | cons r t =>
      cases r
      cases t with
      | cons r t => cases r; cases t; exact ⟨_, _, _, rfl, rfl, q _ (.int _)⟩
  · cases e
theorem os_rfind4 : OSm K ct (fun x xs H Q => ∃ (a b : Str) (i j : Int), x = .str a ∧ xs = [.str b, .int i, .int j] ∧ Q (.int (Txt.rfindIn a b i j)) H) gRfind4 := by
  intro F H a vs ds z Q r e q
  unfold gRfind4 at e
  split at e
  · cases e
    cases r with
    | cons r t =>
      cases r
      cases t with
      | cons r t =>
        cases r
        cases t with
        | cons r t => cases r; cases t; exact ⟨_, _, _, _, rfl, rfl, q _ (.int _)⟩
  · cases e
theorem pp_txm {o e : Expr} {es : List Expr} {fo : Ev} {ds0 : List DE} {name : Str} {id : String} {r : V → List V → Hp → VK → Prop} {g : Str → List D → Option D} {apos cpos : Pos} (O : OSm K ct r g) (slot : Slot "str" name id) (hty : typeOf (.builtin id) = pure (.type "method_descriptor")) (hm : MtR X id r) (ho : PE X o (TP K ct W fo)) (ha : PA X (e :: es) (TD K ct W (evDs ds0)))
    (hbase : attributeBase o name X.env (eval o X.env) = eval o X.env := by rfl) (hfew : ((backTo cpos (starEach (e :: es) X.env)).all (fun x => !x.1) && (backToKw cpos (keywordEach [] X.env)).all (fun x => x.1.isSome) && decide ((e :: es).length + ([] : List Keyword).length + (if ([] : List Keyword).isEmpty then 0 else 1) < 30)) = true := by rfl)
    (hline : (apos.endLine == cpos.line) = true := by rfl) (hs : starEach (e :: es) X.env = (false, eval e X.env) :: starEach es X.env := by rfl) (hplain : (backTo cpos (starEach es X.env)).any (·.1) = false := by rfl) : PE X (.Call (.Attribute o name apos) (e :: es) [] cpos) (TP K ct W (evTxm g fo ds0)) :=
  (pe_bm PySem.F.plainAttrs_str slot hty hm ho ha hbase hfew hline hs hplain).imp fun σ H Q ⟨fr, F, ρ, S, h⟩ => by
  refine Tat.dat h S fun F1 H1 ρ1 v d s1 S1 r1 h => ?_
  have sv : ∃ a, d = .str a := by
    cases d with
    | str a => exact ⟨a, rfl⟩
    | _ => obtain ⟨_, _, z, _⟩ := h; cases z
  obtain ⟨a, rfl⟩ := sv
  cases r1
  refine ⟨rfl, ?_⟩
  refine Tat.bnd h S1 fun F2 H2 ρ2 vs ds s2 S2 r2 h => ?_
  obtain ⟨r0, e0, q⟩ := h.opt
  obtain ⟨z, e1, rfl⟩ := map_some e0
  exact O r2 e1 fun v rv => q v F2 H2 (Same.refl _) S2 rv
end PL
end
section
namespace PL
open PySem PySem.Spec PyProof.Rows L2
variable {K : PySem.W.Frag} {ad : Cl → Addr} {ct : CT}
variable {fr : Fr} {F F' H H' : Hp} {σ : L2.St} {ρ : List Sl} {W : WX}
/-! ### a look that lets an exception out and gives back a new object -/
def Rv.lfreeO : Rv → Bool
  | .d x => x.lfree
  | .c (.lst xs) => D.lfrees xs
  | .c (.obj _ kvs) => D.lfrees (kvs.map (·.2))
  | _ => false
def plfree : Option D → Bool
  | none => true
  | some d => d.lfree
def lookE (j : Nat) (m : Ev) : Ev := fun ρ => match ρ[j]? with
  | some (.cel _ (.lst xs)) => (match m (lkS j xs 0 ρ) with
    | some (.ok r, _) => if Rv.lfreeO r then some (.ok r, ρ) else none
    | some (.er c pl, _) => if plfree pl then some (.er c pl, ρ) else none
    | none => none)
  | _ => none
end PL
end
section
namespace PL
open PySem PySem.Spec PyProof.Rows L2
variable {K : PySem.W.Frag} {ct : CT} {W : WX} {X : Cx} {σ : L2.St} {H : Hp}
/-! an operator of own objects that may raise -/
def evOwn2S (n : Nat) (G : Fn) (c : Cl) (a b : Ev) : Ev := bnd (dat a) fun d => match d with
  | .obj c' xs => if c' = c then bnd (dat b) fun d2 => (match d2 with
      | .obj c2 ys => if c2 = c then callG n G [.d (.obj c xs), .d (.obj c ys)] else fai
      | _ => fai) else fai
  | _ => fai
section
variable {CX : CXT} {k : Nat} {C f : Addr} {fd : FuncData} {ps : List Str} {sp : Sp} {E : L2.St → XK} {ta tb : TE} {a b : Expr} {pos : Pos}
theorem pe_own2E {op : Operator} {m : Str} (hm : m = PySem.dunder op.info.2) (M : Meth X.K C m f) (hc : PySem.W.selfFirst X.K C = true) (F : FnOk X.prog X.w X.K X.mg X.base CX k f fd ps sp) (hr : Room k X.A) (hb : Binds X.K fd ps []) (hx : ∀ σ, PassesAt CX X σ (E σ)) (ha : PE X a ta) (hbb : PE X b tb) :
    PE X (.BinOp a op b pos) (fun σ H Q => ta σ H fun x H1 => tb σ H1 fun y H2 => OW.rOwn2 C sp (E σ) x y H2 Q) := by
  (refine ⟨fun pins s σ H Q I h => ?_⟩)
  refine wpAny_BinOp (binT ha hbb I h fun v u s2 x y H2 I2 rx ry q => ?_)
  obtain ⟨a, dx, fs, b, dy, gs, ex, ey, ha, hb', q⟩ := q
  subst ex ey
  cases rx; cases ry
  obtain ⟨ox, od, J⟩ := OW.inst I2 ha
  obtain ⟨oy, od', J'⟩ := OW.inst I2 hb'
  obtain ⟨m', hF⟩ := I2.fr
  subst hm
  refine PySem.W.binop_K hF I2.ok.mod.kin J J'.type hc M.at_ M.fn ?_
  refine wpAny_mono (run_fnS (us := [.ref a, .ref b]) (vs := [.ref a, .ref b]) F hr hb (hx σ) I2 (.cons rfl (.cons rfl .nil)) q) (fun w s' z => ?_) fun _ _ x => x
  exact let ⟨z1, H1, J1, r1, q1⟩ := z; SlX.cmpback r1 ⟨z1, H1, J1, r1, q1⟩
end
section
variable {k n : Nat} {f : Addr} {fd : FuncData} {ps : List Str} {G : Fn} {pos : Pos} {fa fb : Ev}
theorem pp_own2S {op : Operator} {m : Str} {a b : Expr} (c : Cl) (hm : m = PySem.dunder op.info.2) (M : Meth X.K (ct.ad c) m f) (hc : PySem.W.selfFirst X.K (ct.ad c) = true) (Fn : FnOk X.prog X.w X.K X.mg X.base (L2.CX X.prog X.w) k f fd ps (spP K ct.ad n G)) (tk : Takes X W) (hr : Room k X.A) (hb : Binds X.K fd ps [])
    (ha : PE X a (TP K ct W fa)) (hbb : PE X b (TP K ct W fb)) : PE X (.BinOp a op b pos) (TP K ct W (evOwn2S n G c fa fb)) := (pe_own2E hm M hc Fn hr hb (fun σ => passAt tk σ) ha hbb).imp fun σ H Q ⟨fr, F, ρ, S, h⟩ => by
  refine Tat.obj h S fun F1 H1 ρ1 a dx vs xs s1 S1 h1 l1 k1 h => ?_
  refine Tat.obj h S1 fun F2 H2 ρ2 b dy us ys s2 S2 h2 l2 k2 h => ?_
  refine ⟨a, dx, _, b, dy, _, rfl, rfl, S2.fh _ _ (s2 _ _ h1), S2.fh _ _ h2, ?_⟩
  exact Tat.call h S2 (RAs.cons ((Rp.obj h1 l1 k1).mono s2) (RAs.cons (Rp.obj h2 l2 k2) RAs.nil)) fun _ _ _ z => z
end
end PL
end
section
namespace PL
open PySem PySem.Spec PyProof.Rows L2
/-! ### what a pure term gives: K behind its value, X behind its exception -/
abbrev XC := Cl → Option D → List Sl → Prop
def Y0 {α : Type} (m : M α) (ρ : List Sl) (K : α → List Sl → Prop) (X : XC) : Prop := match m ρ with
  | some (.ok a, ρ1) => K a ρ1
  | some (.er c pl, ρ1) => X c pl ρ1
  | none => False
abbrev NX : XC := fun _ _ _ => False
section
variable {α β : Type} {ρ : List Sl} {X X' : XC}
theorem Y0.mono {m : M α} {K K' : α → List Sl → Prop} (h : Y0 m ρ K X) (k : ∀ a ρ1, K a ρ1 → K' a ρ1) (x : ∀ c pl ρ1, X c pl ρ1 → X' c pl ρ1) : Y0 m ρ K' X' := by
  unfold Y0 at h ⊢
  split
  · rename_i e; rw [e] at h; exact k _ _ h
  · rename_i e; rw [e] at h; exact x _ _ _ h
  · rename_i e; rw [e] at h; exact h
theorem Y0.mk {m : M α} {K : α → List Sl → Prop} (h : Y0 m ρ K NX) : ∃ a ρ1, m ρ = some (.ok a, ρ1) ∧ K a ρ1 := by
  unfold Y0 at h
  split at h
  · exact ⟨_, _, ‹_›, h⟩
  · exact h.elim
  · exact h.elim
theorem Y0.of {m : M α} {K : α → List Sl → Prop} {a : α} {ρ1 : List Sl} (e : m ρ = some (.ok a, ρ1)) (h : K a ρ1) : Y0 m ρ K X := by unfold Y0; rw [e]; exact h
variable {K : α → List Sl → Prop}
theorem Y0_pur {a : α} : Y0 (pur a) ρ K X = K a ρ := id rfl
theorem Y0_fai : Y0 (fai : M α) ρ K X = False := id rfl
theorem Y0_bnd {m : M β} {k : β → M α} : Y0 (bnd m k) ρ K X = Y0 m ρ (fun a ρ1 => Y0 (k a) ρ1 K X) X := by
  unfold Y0 bnd
  cases m ρ with
  | none => rfl
  | some x => obtain ⟨r, ρ1⟩ := x; cases r <;> rfl
theorem Y0_opt {o : Option α} : Y0 (opt o) ρ K X = ∃ a, o = some a ∧ K a ρ := by
  cases o with
  | none => exact propext ⟨fun h => h.elim, fun ⟨_, e, _⟩ => by cases e⟩
  | some a => exact propext ⟨fun h => ⟨a, rfl, h⟩, fun ⟨_, e, h⟩ => by cases e; exact h⟩
theorem Y0_noEr {m : M α} : Y0 (noEr m) ρ K X = Y0 m ρ K NX := by
  unfold Y0 noEr
  cases m ρ with
  | none => rfl
  | some x => obtain ⟨r, ρ1⟩ := x; cases r <;> rfl
theorem Y0_if {c : Prop} [Decidable c] {a b : M α} : Y0 (if c then a else b) ρ K X = if c then Y0 a ρ K X else Y0 b ρ K X := by split <;> rfl
theorem ex_if {γ : Type} {c : Prop} [Decidable c] {a : γ} {P : γ → Prop} : (∃ z, (if c then some a else none) = some z ∧ P z) = (c ∧ P a) := by
  by_cases h : c
  · rw [if_pos h]; exact propext ⟨fun ⟨z, e, p⟩ => by cases e; exact ⟨h, p⟩, fun ⟨_, p⟩ => ⟨a, rfl, p⟩⟩
  · rw [if_neg h]; exact propext ⟨fun ⟨z, e, _⟩ => (by cases e), fun z => (h z.1).elim⟩
theorem ex_so {γ : Type} {a : γ} {P : γ → Prop} : (∃ z, some a = some z ∧ P z) = P a := propext ⟨fun ⟨z, e, p⟩ => by cases e; exact p, fun p => ⟨a, rfl, p⟩⟩
end
section
variable {ρ : List Sl} {X : XC} {K : Rv → List Sl → Prop} {KD : D → List Sl → Prop} {KB : Bool → List Sl → Prop} {KF : Fl → List Sl → Prop} {m a b c : Ev} {s t : M Fl} {u v : M Bool} {i j n : Nat}
theorem Y0_vD {d : D} : Y0 (vD d) ρ K X = K (.d d) ρ := id rfl
theorem Y0_evV : Y0 (evV i) ρ K X = match ρ[i]? with | some (.dat d) => K (.d d) ρ | _ => False := by
  unfold Y0 evV
  cases ρ[i]? with
  | none => rfl
  | some s => cases s <;> rfl
theorem Y0_evF : Y0 (evF i) ρ K X = match ρ[i]? with | some (.dat d) => K (.d d) ρ | some (.cel .own c) => (match c.froz with | some d => K (.d d) (ρ.set i (.dat d)) | none => False) | _ => False := by
  unfold Y0 evF
  cases ρ[i]? with
  | none => rfl
  | some s =>
    cases s with
    | cel k c => cases k with
      | par => rfl
      | own => dsimp only; cases c.froz <;> rfl
    | _ => rfl
theorem Y0_evM : Y0 (evM i) ρ K X = match ρ[i]? with | some (.dat d) => K (.d d) ρ | some (.cel .own c) => K (.c c) (ρ.set i .un) | _ => False := by
  unfold Y0 evM
  cases ρ[i]? with
  | none => rfl
  | some s =>
    cases s with
    | cel k c => cases k <;> rfl
    | _ => rfl
theorem Y0_dat : Y0 (dat m) ρ KD X = Y0 m ρ (fun r ρ1 => match r with | .d d => KD d ρ1 | .c c => ∃ d, c.froz = some d ∧ KD d ρ1) X := by
  unfold dat
  rw [Y0_bnd]
  congr 1
  funext r ρ1
  cases r with
  | d d => rfl
  | c c => exact Y0_opt
theorem Y0_tst : Y0 (tst m) ρ KB X = Y0 (dat m) ρ (fun d ρ1 => match d with | .bl b => KB b ρ1 | _ => False) X := by
  unfold tst
  rw [Y0_bnd]
  congr 1
  funext d ρ1
  cases d <;> rfl
theorem Y0_ev2 {g : D → D → Option D} : Y0 (ev2 g a b) ρ K X = Y0 (dat a) ρ (fun x ρ1 => Y0 (dat b) ρ1 (fun y ρ2 => ∃ z, g x y = some z ∧ K (.d z) ρ2) X) X := by
  unfold ev2
  rw [Y0_bnd]
  congr 1; funext x ρ1
  rw [Y0_bnd]
  congr 1; funext y ρ2
  rw [Y0_opt]
  exact propext ⟨fun ⟨r, e, k⟩ => by obtain ⟨z, e1, e2⟩ := map_some e; subst e2; exact ⟨z, e1, k⟩, fun ⟨z, e, k⟩ => ⟨_, by rw [e]; rfl, k⟩⟩
theorem Y0_ev2c {g : D → D → Option CC} : Y0 (ev2c g a b) ρ K X = Y0 (dat a) ρ (fun x ρ1 => Y0 (dat b) ρ1 (fun y ρ2 => ∃ z, g x y = some z ∧ K (.c z) ρ2) X) X := by
  unfold ev2c
  rw [Y0_bnd]
  congr 1; funext x ρ1
  rw [Y0_bnd]
  congr 1; funext y ρ2
  rw [Y0_opt]
  exact propext ⟨fun ⟨r, e, k⟩ => by obtain ⟨z, e1, e2⟩ := map_some e; subst e2; exact ⟨z, e1, k⟩, fun ⟨z, e, k⟩ => ⟨_, by rw [e]; rfl, k⟩⟩
theorem Y0_ev1 {g : D → Option D} : Y0 (ev1 g a) ρ K X = Y0 (dat a) ρ (fun x ρ1 => ∃ z, g x = some z ∧ K (.d z) ρ1) X := by
  unfold ev1
  rw [Y0_bnd]
  congr 1; funext x ρ1
  rw [Y0_opt]
  exact propext ⟨fun ⟨r, e, k⟩ => by obtain ⟨z, e1, e2⟩ := map_some e; subst e2; exact ⟨z, e1, k⟩, fun ⟨z, e, k⟩ => ⟨_, by rw [e]; rfl, k⟩⟩
theorem Y0_seq : Y0 (evSeq s t) ρ KF X = Y0 s ρ (fun f ρ1 => match f with | .nx => Y0 t ρ1 KF X | f => KF f ρ1) X := by
  unfold Y0 evSeq
  cases s ρ with
  | none => rfl
  | some x => obtain ⟨r, ρ1⟩ := x; cases r with
    | ok f => cases f <;> rfl
    | er c pl => rfl
theorem Y0_evIf : Y0 (evIf u s t) ρ KF X = Y0 u ρ (fun c ρ1 => if c = true then Y0 s ρ1 KF X else Y0 t ρ1 KF X) X := by
  unfold evIf
  rw [Y0_bnd]
  congr 1; funext c ρ1
  exact Y0_if
theorem Y0_tNo : Y0 (tNo u) ρ KB X = Y0 u ρ (fun c ρ1 => KB (!c) ρ1) X := by unfold tNo; rw [Y0_bnd]; rfl
theorem Y0_tAn : Y0 (tAn u v) ρ KB X = Y0 u ρ (fun c ρ1 => if c = true then Y0 v ρ1 KB X else KB false ρ1) X := by
  unfold tAn; rw [Y0_bnd]; congr 1; funext c ρ1; cases c <;> rfl
theorem Y0_tOo : Y0 (tOo u v) ρ KB X = Y0 u ρ (fun c ρ1 => if c = true then KB true ρ1 else Y0 v ρ1 KB X) X := by
  unfold tOo; rw [Y0_bnd]; congr 1; funext c ρ1; cases c <;> rfl
theorem Y0_vNo : Y0 (vNo m) ρ K X = Y0 (tst m) ρ (fun c ρ1 => K (.d (.bl (!c))) ρ1) X := by unfold vNo; rw [Y0_bnd]; rfl
theorem Y0_vAn : Y0 (vAn a b) ρ K X = Y0 (tst a) ρ (fun c ρ1 => if c = true then Y0 (dat b) ρ1 (fun d ρ2 => K (.d d) ρ2) X else K (.d (.bl false)) ρ1) X := by
  unfold vAn; rw [Y0_bnd]; congr 1; funext c ρ1; cases c
  · rfl
  · simp only [if_true]; rw [Y0_bnd]; rfl
theorem Y0_vOo : Y0 (vOo a b) ρ K X = Y0 (tst a) ρ (fun c ρ1 => if c = true then K (.d (.bl true)) ρ1 else Y0 (dat b) ρ1 (fun d ρ2 => K (.d d) ρ2) X) X := by
  unfold vOo; rw [Y0_bnd]; congr 1; funext c ρ1; cases c
  · simp only [Bool.false_eq_true, if_false]; rw [Y0_bnd]; rfl
  · rfl
theorem Y0_vIf : Y0 (vIf u a b) ρ K X = Y0 u ρ (fun c ρ1 => if c = true then Y0 a ρ1 K X else Y0 b ρ1 K X) X := by
  unfold vIf; rw [Y0_bnd]; congr 1; funext c ρ1; exact Y0_if
theorem ex_bl {o : Option D} {P : D → Prop} {Q : Bool → Prop} (h : ∀ b, P (.bl b) = Q b) (h2 : ∀ z, (∀ b, z ≠ .bl b) → P z = False) : (∃ z, o = some z ∧ P z) = ∃ b, o = some (.bl b) ∧ Q b :=
  propext ⟨fun ⟨z, e, p⟩ => by
    cases z with
    | bl b => exact ⟨b, e, by rw [← h]; exact p⟩
    | _ => rw [h2 _ (fun b q => by cases q)] at p; exact p.elim, fun ⟨b, e, p⟩ => ⟨_, e, by rw [h]; exact p⟩⟩
theorem Y0_ch2 {g g' : D → D → Option D} : Y0 (ch2 g g' a b c) ρ K X = Y0 (dat a) ρ (fun x ρ1 => Y0 (dat b) ρ1 (fun y ρ2 => ∃ z, g x y = some (.bl z) ∧ if z = true then Y0 (dat c) ρ2 (fun w ρ3 => ∃ z2, g' y w = some z2 ∧ K (.d z2) ρ3) X else K (.d (.bl false)) ρ2) X) X := by
  unfold ch2
  rw [Y0_bnd]; congr 1; funext x ρ1
  rw [Y0_bnd]; congr 1; funext y ρ2
  rw [Y0_bnd, Y0_opt]
  refine ex_bl (fun k => ?_) (fun z h => ?_)
  · cases k
    · rfl
    · dsimp only
      rw [if_pos rfl, Y0_bnd]; congr 1; funext w ρ3
      rw [Y0_opt]
      exact propext ⟨fun ⟨r, e, k⟩ => by obtain ⟨z, e1, e2⟩ := map_some e; subst e2; exact ⟨z, e1, k⟩, fun ⟨z, e, k⟩ => ⟨_, by rw [e]; rfl, k⟩⟩
  · cases z <;> first | rfl | exact absurd rfl (h _)
theorem Y0_ch3 {g g' g'' : D → D → Option D} {d : Ev} : Y0 (ch3 g g' g'' a b c d) ρ KB X = Y0 (dat a) ρ (fun x ρ1 => Y0 (dat b) ρ1 (fun y ρ2 => ∃ z, g x y = some (.bl z) ∧ if z = true then Y0 (dat c) ρ2 (fun w ρ3 => ∃ z2, g' y w = some (.bl z2) ∧ if z2 = true then Y0 (dat d) ρ3 (fun q ρ4 => ∃ z3, g'' w q = some (.bl z3) ∧ KB z3 ρ4) X else KB false ρ3) X else KB false ρ2) X) X := by
  unfold ch3
  rw [Y0_bnd]; congr 1; funext x ρ1
  rw [Y0_bnd]; congr 1; funext y ρ2
  rw [Y0_bnd, Y0_opt]
  refine ex_bl (fun k => ?_) (fun z h => ?_)
  · cases k
    · rfl
    · dsimp only
      rw [if_pos rfl, Y0_bnd]; congr 1; funext w ρ3
      rw [Y0_bnd, Y0_opt]
      refine ex_bl (fun k => ?_) (fun z h => ?_)
      · cases k
        · rfl
        · dsimp only
          rw [if_pos rfl, Y0_bnd]; congr 1; funext w ρ3
          rw [Y0_bnd, Y0_opt]
          refine ex_bl (fun k => rfl) (fun z h => ?_)
          cases z <;> first | rfl | exact absurd rfl (h _)
      · cases z <;> first | rfl | exact absurd rfl (h _)
  · cases z <;> first | rfl | exact absurd rfl (h _)
/-- a slot that may be set -/
def canSet : Sl → Bool | .cel .par _ => false | _ => true
theorem Y0_setD {d : D} : Y0 (setD i d) ρ KF X = ∃ s, ρ[i]? = some s ∧ canSet s = true ∧ KF .nx (ρ.set i (.dat d)) := by
  unfold Y0 setD
  cases ρ[i]? with
  | none => exact propext ⟨fun h => h.elim, fun ⟨_, e, _⟩ => by cases e⟩
  | some s =>
    have go : ∀ {P : Prop}, canSet s = true → (P = ∃ s', some s = some s' ∧ canSet s' = true ∧ P) := fun {P} z => propext ⟨fun h => ⟨s, rfl, z, h⟩, fun ⟨_, _, _, h⟩ => h⟩
    cases s with
    | cel k c => cases k with
      | own => exact go rfl
      | par => exact propext ⟨fun h => h.elim, fun ⟨_, e, z, _⟩ => by cases e; cases z⟩
    | _ => exact go rfl
theorem Y0_setC {d : CC} : Y0 (PL.setC i d) ρ KF X = ∃ s, ρ[i]? = some s ∧ canSet s = true ∧ KF .nx (ρ.set i (.cel .own d)) := by
  unfold Y0 PL.setC
  cases ρ[i]? with
  | none => exact propext ⟨fun h => h.elim, fun ⟨_, e, _⟩ => by cases e⟩
  | some s =>
    have go : ∀ {P : Prop}, canSet s = true → (P = ∃ s', some s = some s' ∧ canSet s' = true ∧ P) := fun {P} z => propext ⟨fun h => ⟨s, rfl, z, h⟩, fun ⟨_, _, _, h⟩ => h⟩
    cases s with
    | cel k c => cases k with
      | own => exact go rfl
      | par => exact propext ⟨fun h => h.elim, fun ⟨_, e, z, _⟩ => by cases e; cases z⟩
    | _ => exact go rfl
theorem Y0_asg : Y0 (evAsg i m) ρ KF X = Y0 (dat m) ρ (fun d ρ1 => Y0 (setD i d) ρ1 KF X) X := by unfold evAsg; rw [Y0_bnd]
theorem Y0_asgC : Y0 (evAsgC i m) ρ KF X = Y0 m ρ (fun r ρ1 => match r with | .c c => Y0 (PL.setC i c) ρ1 KF X | .d _ => False) X := by
  unfold evAsgC; rw [Y0_bnd]; congr 1; funext r ρ1; cases r <;> rfl
theorem Y0_ret : Y0 (evRet m) ρ KF X = Y0 m ρ (fun r ρ1 => KF (.rt r) ρ1) X := by unfold evRet; rw [Y0_bnd]; rfl
theorem Y0_ex : Y0 (evEx m) ρ KF X = Y0 m ρ (fun _ ρ1 => KF .nx ρ1) X := by unfold evEx; rw [Y0_bnd]; rfl
theorem Y0_nx : Y0 evNx ρ KF X = KF .nx ρ := id rfl
theorem Y0_lookE {m : Ev} {K : Rv → List Sl → Prop} : Y0 (lookE j m) ρ K X = match ρ[j]? with | some (.cel _ (.lst xs)) => Y0 m (lkS j xs 0 ρ) (fun r _ => Rv.lfreeO r = true ∧ K r ρ) (fun c pl _ => plfree pl = true ∧ X c pl ρ) | _ => False := by
  unfold Y0 lookE
  cases ρ[j]? with
  | none => rfl
  | some s => cases s with
    | cel k c => cases c with
      | lst xs =>
        dsimp only
        cases m (lkS j xs 0 ρ) with
        | none => rfl
        | some x =>
          obtain ⟨r, ρ1⟩ := x
          cases r with
          | ok a => dsimp only; cases e : Rv.lfreeO a <;> simp
          | er c pl => dsimp only; cases e : plfree pl <;> simp
      | _ => rfl
    | _ => rfl
theorem Y0_look {α : Type} {ok : α → Bool} {m : M α} {K : α → List Sl → Prop} : Y0 (look j ok m) ρ K X = match ρ[j]? with | some (.cel _ (.lst xs)) => Y0 m (lkS j xs 0 ρ) (fun r _ => ok r = true ∧ K r ρ) NX | _ => False := by
  unfold Y0 look
  cases ρ[j]? with
  | none => rfl
  | some s => cases s with
    | cel k c => cases c with
      | lst xs =>
        dsimp only
        cases m (lkS j xs 0 ρ) with
        | none => rfl
        | some x => obtain ⟨r, ρ1⟩ := x; cases r with
          | ok a => dsimp only; cases ok a <;> simp
          | er c pl => rfl
      | _ => rfl
    | _ => rfl
variable {KS : List D → List Sl → Prop} {KA : List Ar → List Sl → Prop} {es : List DE} {as : List AE}
theorem Y0_ds0 : Y0 (evDs []) ρ KS X = KS [] ρ := id rfl
theorem Y0_dsE : Y0 (evDs (.e m :: es)) ρ KS X = Y0 (dat m) ρ (fun d ρ1 => Y0 (evDs es) ρ1 (fun ds ρ2 => KS (d :: ds) ρ2) X) X := by
  show Y0 (bnd _ _) ρ KS X = _
  rw [Y0_bnd]; congr 1; funext d ρ1; rw [Y0_bnd]; rfl
theorem Y0_dsS : Y0 (evDs (.s m :: es)) ρ KS X = Y0 (dat m) ρ (fun d ρ1 => ∃ xs, d.items = some xs ∧ Y0 (evDs es) ρ1 (fun ds ρ2 => KS (xs ++ ds) ρ2) X) X := by
  show Y0 (bnd _ _) ρ KS X = _
  rw [Y0_bnd]; congr 1; funext d ρ1; rw [Y0_bnd, Y0_opt]; congr 1; funext xs; rw [Y0_bnd]; rfl
theorem Y0_B {g : List D → Option D} : Y0 (evB g es) ρ K X = Y0 (evDs es) ρ (fun ds ρ1 => ∃ z, g ds = some z ∧ K (.d z) ρ1) X := by
  unfold evB
  rw [Y0_bnd]; congr 1; funext ds ρ1; rw [Y0_opt]
  exact propext ⟨fun ⟨r, e, k⟩ => by obtain ⟨z, e1, e2⟩ := map_some e; subst e2; exact ⟨z, e1, k⟩, fun ⟨z, e, k⟩ => ⟨_, by rw [e]; rfl, k⟩⟩
theorem Y0_Bc {g : List D → Option CC} : Y0 (evBc g es) ρ K X = Y0 (evDs es) ρ (fun ds ρ1 => ∃ z, g ds = some z ∧ K (.c z) ρ1) X := by
  unfold evBc
  rw [Y0_bnd]; congr 1; funext ds ρ1; rw [Y0_opt]
  exact propext ⟨fun ⟨r, e, k⟩ => by obtain ⟨z, e1, e2⟩ := map_some e; subst e2; exact ⟨z, e1, k⟩, fun ⟨z, e, k⟩ => ⟨_, by rw [e]; rfl, k⟩⟩
theorem Y0_tup : Y0 (evTup es) ρ K X = Y0 (evDs es) ρ (fun ds ρ1 => ds.length ≤ 16777216 ∧ K (.d (.tup ds)) ρ1) X := by
  unfold evTup
  rw [Y0_bnd]; congr 1; funext ds ρ1
  rw [Y0_if]
  by_cases h : ds.length ≤ 16777216 <;> simp [h, Y0_vD, Y0_fai]
theorem Y0_lst : Y0 (evLst es) ρ K X = Y0 (evDs es) ρ (fun ds ρ1 => ds.length ≤ 16777216 ∧ K (.c (.lst ds)) ρ1) X := by
  unfold evLst
  rw [Y0_bnd]; congr 1; funext ds ρ1
  rw [Y0_if]
  by_cases h : ds.length ≤ 16777216 <;> simp [h, Y0_pur, Y0_fai]
theorem Y0_isL {P : Rv → List Sl → Prop} : Y0 (isL j) ρ P X = match ρ[j]? with | some (.cel _ (.lst _)) => P (.d .non) ρ | _ => False := by
  unfold Y0 isL
  cases ρ[j]? with
  | none => rfl
  | some s => cases s with
    | cel k c => cases c <;> rfl
    | _ => rfl
theorem Y0_modL {f : List D → Option (D × List D)} : Y0 (modL j f) ρ K X = match ρ[j]? with | some (.cel k (.lst xs)) => ∃ p, f xs = some p ∧ K (.d p.1) (ρ.set j (.cel k (.lst p.2))) | _ => False := by
  unfold Y0 modL
  cases ρ[j]? with
  | none => rfl
  | some s => cases s with
    | cel k c => cases c with
      | lst xs =>
        dsimp only
        cases f xs with
        | none => exact propext ⟨fun h => h.elim, fun ⟨_, e, _⟩ => by cases e⟩
        | some p => exact propext ⟨fun h => ⟨p, rfl, h⟩, fun ⟨_, e, h⟩ => by cases e; exact h⟩
      | _ => rfl
    | _ => rfl
theorem Y0_bmL {f : List D → List D → Option (D × List D)} : Y0 (evBmL j f es) ρ K X = match ρ[j]? with
    | some (.cel _ (.lst _)) => Y0 (evDs es) ρ (fun ds ρ1 => match ρ1[j]? with | some (.cel k (.lst xs)) => ∃ p, f xs ds = some p ∧ K (.d p.1) (ρ1.set j (.cel k (.lst p.2))) | _ => False) X
    | _ => False := by
  unfold evBmL
  rw [Y0_bnd, Y0_isL]
  simp only [Y0_bnd, Y0_modL]
theorem Y0_LstRg {a b : Ev} : Y0 (evLstRg a b) ρ K X = Y0 (dat a) ρ (fun x ρ1 => Y0 (dat b) ρ1 (fun y ρ2 => match x, y with
    | .int i, .int j => (-(2 ^ 62) ≤ i ∧ i < 2 ^ 62 ∧ -(2 ^ 62) ≤ j ∧ j < 2 ^ 62 ∧ (j - i).toNat ≤ 2 ^ 24) ∧ K (.c (.lst (rngD i (j - i).toNat))) ρ2
    | _, _ => False) X) X := by
  unfold evLstRg
  rw [Y0_bnd]; congr 1; funext x ρ1
  rw [Y0_bnd]; congr 1; funext y ρ2
  cases x <;> try rfl
  rename_i i
  cases y <;> try rfl
  rename_i j
  dsimp only
  split
  · rename_i h
    exact propext ⟨fun k => ⟨h, k⟩, fun k => k.2⟩
  · rename_i h
    exact propext ⟨fun k => k.elim, fun k => absurd k.1 h⟩
theorem Y0_SrtSt {a : Ev} : Y0 (evSrtSt a) ρ K X = Y0 (dat a) ρ (fun x ρ1 => match x with
    | .lst xs => ∃ ns, D.ints xs = some ns ∧ ns.length ≤ 60 ∧ K (.c (.lst ((srtI ns).map .int))) ρ1
    | _ => False) X := by
  unfold evSrtSt
  rw [Y0_bnd]; congr 1; funext x ρ1
  cases x <;> try rfl
  rename_i xs
  dsimp only
  cases D.ints xs with
  | none => exact propext ⟨fun k => k.elim, fun ⟨_, e, _⟩ => by cases e⟩
  | some ns =>
    dsimp only
    split
    · rename_i h
      exact propext ⟨fun k => ⟨ns, rfl, h, k⟩, fun ⟨_, e, _, k⟩ => by cases e; exact k⟩
    · rename_i h
      exact propext ⟨fun k => k.elim, fun ⟨_, e, k, _⟩ => by cases e; exact absurd k h⟩
theorem Y0_ixL : Y0 (evIxL j m) ρ K X = match ρ[j]? with
    | some (.cel _ (.lst _)) => Y0 (dat m) ρ (fun d ρ1 => match ρ1[j]? with | some (.cel _ (.lst xs)) => (match d with | .int i => ∃ z, atI xs i = some z ∧ K (.d z) ρ1 | _ => False) | _ => False) X
    | _ => False := by
  unfold evIxL
  rw [Y0_bnd, Y0_isL]
  cases ρ[j]? with
  | none => rfl
  | some s => cases s with
    | cel k c => cases c with
      | lst xs =>
        dsimp only
        rw [Y0_bnd]
        congr 1
        funext d ρ1
        unfold Y0
        dsimp only
        generalize ρ1[j]? = o
        cases o with
        | none => cases d <;> rfl
        | some s => cases s with
          | cel k c => cases c with
            | lst ys =>
              cases d <;> try rfl
              rename_i i
              dsimp only
              cases atI ys i with
              | none => exact propext ⟨fun h => h.elim, fun ⟨_, e, _⟩ => by cases e⟩
              | some z => exact propext ⟨fun h => ⟨z, rfl, h⟩, fun ⟨_, e, h⟩ => by cases e; exact h⟩
            | _ => cases d <;> rfl
          | _ => cases d <;> rfl
      | _ => rfl
    | _ => rfl
theorem Y0_setI : Y0 (evSetI j a b) ρ KF X = Y0 (dat b) ρ (fun d ρ1 => match ρ1[j]? with
    | some (.cel _ (.lst _)) => Y0 (dat a) ρ1 (fun i ρ2 => match i with
      | .int i => (match ρ2[j]? with | some (.cel k (.lst xs)) => ∃ n, ixN xs.length i = some n ∧ KF .nx (ρ2.set j (.cel k (.lst (xs.set n d)))) | _ => False)
      | _ => False) X
    | _ => False) X := by
  unfold evSetI
  rw [Y0_bnd]; congr 1; funext d ρ1
  rw [Y0_bnd, Y0_isL]
  cases ρ1[j]? with
  | none => rfl
  | some s => cases s with
    | cel k c => cases c with
      | lst xs =>
        dsimp only
        rw [Y0_bnd]
        congr 1
        funext i ρ2
        cases i with
        | int i =>
          dsimp only
          rw [Y0_bnd, Y0_modL]
          cases ρ2[j]? with
          | none => rfl
          | some s => cases s with
            | cel k c => cases c with
              | lst xs =>
                dsimp only
                cases ixN xs.length i with
                | none => exact propext ⟨fun ⟨_, e, _⟩ => (by cases e), fun ⟨_, e, _⟩ => (by cases e)⟩
                | some n => exact propext ⟨fun ⟨_, e, h⟩ => ⟨n, rfl, by cases e; exact h⟩, fun ⟨_, e, h⟩ => ⟨_, rfl, by cases e; exact h⟩⟩
              | _ => rfl
            | _ => rfl
        | _ => rfl
      | _ => rfl
    | _ => rfl
theorem Y0_as0 : Y0 (evAs []) ρ KA X = KA [] ρ := id rfl
theorem Y0_asE : Y0 (evAs (.e m :: as)) ρ KA X = Y0 (dat m) ρ (fun d ρ1 => Y0 (evAs as) ρ1 (fun ar ρ2 => KA (.d d :: ar) ρ2) X) X := by
  show Y0 (bnd _ _) ρ KA X = _
  rw [Y0_bnd]; congr 1; funext d ρ1; rw [Y0_bnd]; rfl
theorem Y0_asC : Y0 (evAs (.c j :: as)) ρ KA X = match ρ[j]? with | some (.cel _ _) => Y0 (evAs as) ρ (fun ar ρ2 => KA (.c j :: ar) ρ2) X | _ => False := by
  conv => lhs; unfold Y0 evAs
  cases h : ρ[j]? with
  | none => rfl
  | some s => cases s with
    | cel k c =>
      dsimp only
      have := Y0_bnd (ρ := ρ) (m := evAs as) (k := fun as => pur (Ar.c j :: as)) (K := KA) (X := X)
      unfold Y0 at this ⊢
      exact this
    | _ => rfl
theorem Y0_callG {G : Fn} {ar : List Ar} : Y0 (callG n G ar) ρ K X = ∃ ss, argSl ρ ar = some ss ∧ (ar.length = n ∧ (celsOf ar).Nodup) ∧ Y0 G ss (fun r ss' => K r (back ρ ar ss')) (fun c pl ss' => X c pl (back ρ ar ss')) := by
  unfold Y0 callG
  cases argSl ρ ar with
  | none => exact propext ⟨fun h => h.elim, fun ⟨_, e, _⟩ => by cases e⟩
  | some ss =>
    dsimp only
    by_cases h : ar.length = n ∧ (celsOf ar).Nodup
    · rw [if_pos h]
      refine propext ⟨fun z => ⟨ss, rfl, h, ?_⟩, fun ⟨_, e, _, z⟩ => ?_⟩
      · cases e : G ss with
        | none => rw [e] at z; exact z
        | some x => obtain ⟨r, s2⟩ := x; rw [e] at z; cases r <;> exact z
      · cases e
        cases e : G ss with
        | none => rw [e] at z; exact z
        | some x => obtain ⟨r, s2⟩ := x; rw [e] at z; cases r <;> exact z
    · rw [if_neg h]
      exact propext ⟨fun z => z.elim, fun ⟨_, _, z, _⟩ => h z⟩
theorem Y0_call {G : Fn} {ds : List D} : Y0 (evCall n G as ds) ρ K X = Y0 (evAs as) ρ (fun ar ρ1 => Y0 (callG n G (ar ++ ds.map .d)) ρ1 K X) X := by unfold evCall; rw [Y0_bnd]
theorem Y0_call0 {G : Fn} {ds : List D} : Y0 (evCall0 n G as ds) ρ K X = Y0 (evAs as) ρ (fun ar ρ1 => Y0 (callG n G (ar ++ ds.map .d)) ρ1 K NX) X := by
  unfold evCall0; rw [Y0_bnd]; congr 1; funext ar ρ1; rw [Y0_noEr]
theorem Y0_callN {G : Fn} {c : CC} {ar : List Ar} : Y0 (callN n G c ar) ρ K X = Y0 (callG n G (.c ρ.length :: ar)) (ρ ++ [.cel .own c]) (fun r ρ1 => K r (ρ1.take ρ.length)) (fun c pl ρ1 => X c pl (ρ1.take ρ.length)) := by
  unfold Y0 callN
  cases callG n G (.c ρ.length :: ar) (ρ ++ [.cel .own c]) with
  | none => rfl
  | some x => obtain ⟨r, ρ1⟩ := x; cases r <;> rfl
theorem Y0_CallN {G : Fn} {ds : List D} : Y0 (evCallN n G m as ds) ρ K X = Y0 m ρ (fun r ρ1 => match r with | .c c => Y0 (evAs as) ρ1 (fun ar ρ2 => Y0 (callN n G c (ar ++ ds.map .d)) ρ2 K X) X | .d _ => False) X := by
  unfold evCallN; rw [Y0_bnd]; congr 1; funext r ρ1
  cases r with
  | d d => rfl
  | c c => exact Y0_bnd
theorem Y0_CallN0 {G : Fn} {ds : List D} : Y0 (evCallN0 n G m as ds) ρ K X = Y0 m ρ (fun r ρ1 => match r with | .c c => Y0 (evAs as) ρ1 (fun ar ρ2 => Y0 (callN n G c (ar ++ ds.map .d)) ρ2 K NX) X | .d _ => False) X := by
  unfold evCallN0; rw [Y0_bnd]; congr 1; funext r ρ1
  cases r with
  | d d => rfl
  | c c =>
    dsimp only
    rw [Y0_bnd]; congr 1; funext ar ρ2; rw [Y0_noEr]
theorem Y0_CallC {G : Fn} {c : Cl} : Y0 (evCallC n G c as) ρ K X = Y0 (evAs as) ρ (fun ar ρ1 => Y0 (callG n G (.d (.cl c) :: ar)) ρ1 K NX) X := by
  unfold evCallC; rw [Y0_bnd]; congr 1; funext ar ρ1; rw [Y0_noEr]
theorem Y0_CallCS {G : Fn} {c : Cl} : Y0 (evCallCS n G c as) ρ K X = Y0 (evAs as) ρ (fun ar ρ1 => Y0 (callG n G (.d (.cl c) :: ar)) ρ1 K X) X := by
  unfold evCallCS; rw [Y0_bnd]
theorem Y0_mkL {G : Fn} {c : Cl} : Y0 (evMkL i n G c as) ρ K X = match ρ[i]? with | some (.dat (.cl c')) => c' = c ∧ Y0 (evMk n G c as []) ρ K X | _ => False := by
  conv => lhs; unfold Y0 evMkL
  cases ρ[i]? with
  | none => rfl
  | some s =>
    cases s with
    | dat d =>
      cases d with
      | cl c' =>
        dsimp only
        by_cases h : c' = c
        · rw [if_pos h]; exact propext ⟨fun q => ⟨h, q⟩, fun q => q.2⟩
        · rw [if_neg h]; exact propext ⟨fun q => q.elim, fun q => h q.1⟩
      | _ => rfl
    | _ => rfl
theorem Y0_BestN {f : Int → Int → Int} {es : List DE} : Y0 (evBestN f es) ρ K X = Y0 (evDs es) ρ (fun ds ρ1 => ∃ z, gBestN f ds = some z ∧ K (.d z) ρ1) X := by
  unfold evBestN
  rw [Y0_bnd]; congr 1; funext ds ρ1; rw [Y0_opt]
  exact propext ⟨fun ⟨r, e, k⟩ => by obtain ⟨z, e1, e2⟩ := map_some e; subst e2; exact ⟨z, e1, k⟩, fun ⟨z, e, k⟩ => ⟨_, by rw [e]; rfl, k⟩⟩
theorem Y0_own2 {G : Fn} {c : Cl} : Y0 (evOwn2 n G c a b) ρ K X = Y0 (dat a) ρ (fun d ρ1 => match d with
    | .obj c' xs => c' = c ∧ Y0 (dat b) ρ1 (fun d2 ρ2 => match d2 with | .obj c2 ys => c2 = c ∧ Y0 (callG n G [.d (.obj c xs), .d (.obj c ys)]) ρ2 K NX | _ => False) X
    | _ => False) X := by
  unfold evOwn2
  rw [Y0_bnd]; congr 1; funext d ρ1
  cases d <;> try rfl
  rename_i c' xs
  dsimp only
  rw [Y0_if]
  by_cases h : c' = c
  · rw [if_pos h, Y0_bnd]
    simp only [h, true_and]
    congr 1; funext d2 ρ2
    cases d2 <;> try rfl
    rename_i c2 ys
    dsimp only
    rw [Y0_if]
    by_cases h2 : c2 = c
    · rw [if_pos h2, Y0_noEr]; simp only [h2, true_and]
    · rw [if_neg h2, Y0_fai]; simp only [h2, false_and]
  · rw [if_neg h, Y0_fai]; simp only [h, false_and]
theorem Y0_own2S {G : Fn} {c : Cl} : Y0 (evOwn2S n G c a b) ρ K X = Y0 (dat a) ρ (fun d ρ1 => match d with
    | .obj c' xs => c' = c ∧ Y0 (dat b) ρ1 (fun d2 ρ2 => match d2 with | .obj c2 ys => c2 = c ∧ Y0 (callG n G [.d (.obj c xs), .d (.obj c ys)]) ρ2 K X | _ => False) X
    | _ => False) X := by
  unfold evOwn2S
  rw [Y0_bnd]; congr 1; funext d ρ1
  cases d <;> try rfl
  rename_i c' xs
  dsimp only
  rw [Y0_if]
  by_cases h : c' = c
  · rw [if_pos h, Y0_bnd]
    simp only [h, true_and]
    congr 1; funext d2 ρ2
    cases d2 <;> try rfl
    rename_i c2 ys
    dsimp only
    rw [Y0_if]
    by_cases h2 : c2 = c
    · rw [if_pos h2]; simp only [h2, true_and]
    · rw [if_neg h2, Y0_fai]; simp only [h2, false_and]
  · rw [if_neg h, Y0_fai]; simp only [h, false_and]
theorem Y0_st {k : StK} : Y0 (evSt k m) ρ K X = Y0 (dat m) ρ (fun d ρ1 => match d with | .tup xs => K (.d (.tup (k.ap xs))) ρ1 | _ => False) X := by
  unfold evSt; rw [Y0_bnd]; congr 1; funext d ρ1; cases d <;> rfl
theorem Y0_ownIn {G : Fn} {c : Cl} : Y0 (evOwnIn n G c a b) ρ K X = Y0 (dat a) ρ (fun x ρ1 => Y0 (dat b) ρ1 (fun d ρ2 => match d with
    | .obj c' xs => c' = c ∧ Y0 (tst (noEr (callG n G [.d (.obj c xs), .d x]))) ρ2 (fun z ρ3 => K (.d (.bl z)) ρ3) X
    | _ => False) X) X := by
  unfold evOwnIn
  rw [Y0_bnd]; congr 1; funext x ρ1
  rw [Y0_bnd]; congr 1; funext d ρ2
  cases d <;> try rfl
  rename_i c' xs
  dsimp only
  rw [Y0_if]
  by_cases h : c' = c
  · rw [if_pos h, Y0_bnd]; simp only [h, true_and]; rfl
  · rw [if_neg h, Y0_fai]; simp only [h, false_and]
theorem Y0_ownNin {G : Fn} {c : Cl} : Y0 (evOwnNin n G c a b) ρ K X = Y0 (dat a) ρ (fun x ρ1 => Y0 (dat b) ρ1 (fun d ρ2 => match d with
    | .obj c' xs => c' = c ∧ Y0 (tst (noEr (callG n G [.d (.obj c xs), .d x]))) ρ2 (fun z ρ3 => K (.d (.bl (!z))) ρ3) X
    | _ => False) X) X := by
  unfold evOwnNin
  rw [Y0_bnd]; congr 1; funext x ρ1
  rw [Y0_bnd]; congr 1; funext d ρ2
  cases d <;> try rfl
  rename_i c' xs
  dsimp only
  rw [Y0_if]
  by_cases h : c' = c
  · rw [if_pos h, Y0_bnd]; simp only [h, true_and]; rfl
  · rw [if_neg h, Y0_fai]; simp only [h, false_and]
theorem datas_0 : datas [] = some [] := id rfl
theorem datas_d {d : D} {ar : List Ar} : datas (.d d :: ar) = (datas ar).map (d :: ·) := by
  show (match Ar.data (.d d), datas ar with | some d, some ds => some (d :: ds) | _, _ => none) = _
  cases datas ar <;> rfl
theorem Y0_callV {G : Fn} {ds : List D} : Y0 (callV n G ds) ρ K X = ((n ≤ ds.length ∧ ds.length ≤ 1000000) ∧ Y0 (callG (n + 1) G ((ds.take n).map .d ++ [.d (.tup (ds.drop n))])) ρ K X) := by
  unfold callV
  rw [Y0_if]
  by_cases h : n ≤ ds.length ∧ ds.length ≤ 1000000
  · rw [if_pos h]; simp only [h, true_and, and_self]
  · rw [if_neg h]; exact propext ⟨fun z => z.elim, fun z => h z.1⟩
theorem Y0_CallV {G : Fn} : Y0 (evCallV n G as) ρ K X = Y0 (evAs as) ρ (fun ar ρ1 => ∃ ds, datas ar = some ds ∧ Y0 (callV n G ds) ρ1 K X) X := by
  unfold evCallV
  rw [Y0_bnd]; congr 1; funext ar ρ1
  rw [Y0_bnd, Y0_opt]
theorem Y0_CallV0 {G : Fn} : Y0 (evCallV0 n G as) ρ K X = Y0 (evAs as) ρ (fun ar ρ1 => ∃ ds, datas ar = some ds ∧ Y0 (callV n G ds) ρ1 K NX) X := by
  unfold evCallV0
  rw [Y0_bnd]; congr 1; funext ar ρ1
  rw [Y0_bnd, Y0_opt]
  congr 1; funext ds; rw [Y0_noEr]
theorem Y0_CallVS {G : Fn} : Y0 (evCallVS n G m) ρ K X = Y0 (dat m) ρ (fun d ρ1 => ∃ ds, d.items = some ds ∧ Y0 (callV n G ds) ρ1 K X) X := by
  unfold evCallVS
  rw [Y0_bnd]; congr 1; funext d ρ1
  rw [Y0_bnd, Y0_opt]
theorem Y0_mkG {G : Fn} {c : Cl} {ar : List Ar} : Y0 (mkG n G c ar) ρ K X = Y0 (callG n G (.c ρ.length :: ar)) (ρ ++ [.cel .own (.obj c [])]) (fun r ρ1 => match r, ρ1[ρ.length]? with | .d .non, some (.cel .own c') => K (.c c') (ρ1.take ρ.length) | _, _ => False) (fun c pl ρ1 => X c pl (ρ1.take ρ.length)) := by
  unfold Y0 mkG
  dsimp only
  generalize callG n G (.c ρ.length :: ar) (ρ ++ [.cel .own (.obj c [])]) = z
  cases z with
  | none => rfl
  | some x =>
    obtain ⟨r, ρ1⟩ := x
    cases r with
    | er c pl => rfl
    | ok r =>
      cases r with
      | c c => cases ρ1[ρ.length]? <;> rfl
      | d d =>
        cases d with
        | non =>
          dsimp only
          cases ρ1[ρ.length]? with
          | none => rfl
          | some s => cases s with
            | cel k c => cases k <;> rfl
            | _ => rfl
        | _ => cases ρ1[ρ.length]? <;> rfl
theorem Y0_mk {G : Fn} {c : Cl} {ds : List D} : Y0 (evMk n G c as ds) ρ K X = Y0 (evAs as) ρ (fun ar ρ1 => Y0 (mkG n G c (ar ++ ds.map .d)) ρ1 K X) X := by unfold evMk; rw [Y0_bnd]
theorem Y0_mk0 {G : Fn} {c : Cl} {ds : List D} : Y0 (evMk0 n G c as ds) ρ K X = Y0 (evAs as) ρ (fun ar ρ1 => Y0 (mkG n G c (ar ++ ds.map .d)) ρ1 K NX) X := by
  unfold evMk0; rw [Y0_bnd]; congr 1; funext ar ρ1; rw [Y0_noEr]
theorem Y0_meth {G : Fn} {c : Cl} : Y0 (evMeth n G c m as) ρ K X = Y0 (dat m) ρ (fun d ρ1 => match d with | .obj c' xs => c' = c ∧ Y0 (evAs as) ρ1 (fun ar ρ2 => Y0 (callG n G (.d (.obj c' xs) :: ar)) ρ2 K NX) X | _ => False) X := by
  unfold evMeth; rw [Y0_bnd]; congr 1; funext d ρ1
  cases d <;> try rfl
  rename_i c' xs
  dsimp only
  rw [Y0_if]
  by_cases h : c' = c
  · rw [if_pos h, Y0_bnd]
    simp only [h, true_and, Y0_noEr]
  · rw [if_neg h, Y0_fai]; simp [h]
theorem Y0_methS {G : Fn} {c : Cl} : Y0 (evMethS n G c m as) ρ K X = Y0 (dat m) ρ (fun d ρ1 => match d with | .obj c' xs => c' = c ∧ Y0 (evAs as) ρ1 (fun ar ρ2 => Y0 (callG n G (.d (.obj c' xs) :: ar)) ρ2 K X) X | _ => False) X := by
  unfold evMethS; rw [Y0_bnd]; congr 1; funext d ρ1
  cases d <;> try rfl
  rename_i c' xs
  dsimp only
  rw [Y0_if]
  by_cases h : c' = c
  · rw [if_pos h, Y0_bnd]
    simp only [h, true_and]
  · rw [if_neg h, Y0_fai]; simp [h]
theorem Y0_runB {k : Nat} {ss : List Sl} : Y0 (runB k s) ss K X = Y0 s (ss ++ List.replicate k .un) (fun f ρ => match f with | .nx => K (.d .non) (outs ss ρ) | .rt r => K r (outs ss ρ) | _ => False) (fun c pl ρ => X c pl (outs ss ρ)) := by
  unfold Y0 runB
  dsimp only
  generalize s (ss ++ List.replicate k .un) = z
  cases z with
  | none => rfl
  | some x => obtain ⟨r, ρ1⟩ := x; cases r with
    | ok f => cases f <;> rfl
    | er c pl => rfl
theorem Y0_run0 {k : Nat} {ss : List Sl} : Y0 (run0 k s) ss K X = Y0 s (ss ++ List.replicate k .un) (fun f ρ => match f with | .nx => K (.d .non) (outs ss ρ) | .rt r => K r (outs ss ρ) | _ => False) NX := by
  unfold run0; rw [Y0_noEr, Y0_runB]
theorem Y0_raise {c : Cl} : Y0 (evRaise c) ρ KF X = X c none ρ := id rfl
theorem Y0_raiseP {c : Cl} : Y0 (evRaiseP c m) ρ KF X = Y0 (dat m) ρ (fun d ρ1 => fmtD d = true ∧ X c (some d) ρ1) X := by
  unfold evRaiseP
  rw [Y0_bnd]; congr 1; funext d ρ1
  cases e : fmtD d with
  | true =>
    rw [if_pos rfl]
    exact propext ⟨fun h => ⟨rfl, h⟩, fun h => h.2⟩
  | false =>
    rw [if_neg (by decide)]
    exact propext ⟨fun h => h.elim, fun h => by cases h.1⟩
theorem Y0_raise1 {c : Cl} : Y0 (evRaise1 c m) ρ KF X = Y0 m ρ (fun _ ρ1 => X c none ρ1) X := by unfold evRaise1; rw [Y0_bnd]; rfl
theorem Y0_for {it : M (List D)} {tg : Tg} : Y0 (evFor it tg s) ρ KF X = Y0 it ρ (fun xs ρ1 => Y0 (loop tg s xs) ρ1 KF X) X := by unfold evFor; rw [Y0_bnd]
theorem Y0_isi {tbl : List (TyN × Bool)} : Y0 (evIsi tbl m) ρ K X = Y0 (dat m) ρ (fun d ρ1 => ∃ b, (d.tyN.bind fun t => tbl.lookup t) = some b ∧ K (.d (.bl b)) ρ1) X := by
  unfold evIsi; rw [Y0_bnd]; congr 1; funext d ρ1; rw [Y0_opt]
  exact propext ⟨fun ⟨r, e, k⟩ => by obtain ⟨z, e1, e2⟩ := map_some e; subst e2; exact ⟨z, e1, k⟩, fun ⟨z, e, k⟩ => ⟨_, by rw [e]; rfl, k⟩⟩
theorem Y0_tTr : Y0 (tTr m) ρ KB X = Y0 (dat m) ρ (fun d ρ1 => ∃ b, d.truth = some b ∧ KB b ρ1) X := by
  unfold tTr; rw [Y0_bnd]; congr 1; funext d ρ1; rw [Y0_opt]
theorem Y0_fldS {c : Cl} {f : Str} : Y0 (evFldS c j f m) ρ KF X = Y0 (dat m) ρ (fun d ρ1 => match ρ1[j]? with | some (.cel k (.obj c' kvs)) => (c' = c ∧ kvs.length < 1000) ∧ KF .nx (ρ1.set j (.cel k (.obj c' (putD f d kvs)))) | _ => False) X := by
  unfold evFldS; rw [Y0_bnd]; congr 1; funext d ρ1
  unfold Y0
  dsimp only
  generalize ρ1[j]? = z
  cases z with
  | none => rfl
  | some s => cases s with
    | cel k cc => cases cc with
      | obj c' kvs =>
        dsimp only
        by_cases h : c' = c ∧ kvs.length < 1000
        · rw [if_pos h]; simp [h]
        · rw [if_neg h]; simp only [h, false_and]
      | _ => rfl
    | _ => rfl
/-- a statement, then the rest: what holds between them is said -/
theorem Y0_cut {J : List Sl → Prop} (h : Y0 s ρ (fun f ρ1 => f = .nx ∧ J ρ1) X) (k : ∀ ρ1, J ρ1 → Y0 t ρ1 KF X) : Y0 (evSeq s t) ρ KF X := by
  rw [Y0_seq]
  refine h.mono (fun f ρ1 q => ?_) (fun _ _ _ q => q)
  obtain ⟨e, q⟩ := q
  subst e
  exact k ρ1 q
/-- a loop with an invariant over what is still to come -/
theorem Y0_loop {tg : Tg} {I : List D → List Sl → Prop} : ∀ {xs : List D} {ρ : List Sl}, I xs ρ → (∀ x r ρ, I (x :: r) ρ → Y0 (asgT tg x) ρ (fun f ρ1 => f = .nx ∧ Y0 s ρ1 (fun f ρ2 => match f with | .nx => I r ρ2 | .ct => I r ρ2 | .bk => KF .nx ρ2 | .rt v => KF (.rt v) ρ2) X) NX) → (∀ ρ, I [] ρ → KF .nx ρ) → Y0 (loop tg s xs) ρ KF X
  | [], ρ, h, _, e => e ρ h
  | x :: xs, ρ, h, st, e => by
    obtain ⟨f, ρ1, e1, rfl, z⟩ := (st x xs ρ h).mk
    conv => unfold Y0 loop
    rw [e1]
    dsimp only
    unfold Y0 at z
    cases es : s ρ1 with
    | none => rw [es] at z; exact z.elim
    | some y =>
      obtain ⟨r, ρ2⟩ := y
      rw [es] at z
      cases r with
      | er c pl => exact z
      | ok f =>
        cases f with
        | nx => have := Y0_loop (xs := xs) z st e; unfold Y0 at this; exact this
        | ct => have := Y0_loop (xs := xs) z st e; unfold Y0 at this; exact this
        | bk => exact z
        | rt v => exact z
theorem Y0_asgT {tg : Tg} : Y0 (evAsgT tg m) ρ KF X = Y0 (dat m) ρ (fun d ρ1 => Y0 (asgT tg d) ρ1 (fun f ρ2 => f = .nx ∧ KF .nx ρ2) NX) X := by
  unfold evAsgT; rw [Y0_bnd]; congr 1; funext d ρ1
  unfold Y0
  dsimp only
  generalize asgT tg d ρ1 = z
  cases z with
  | none => rfl
  | some x =>
    obtain ⟨r, ρ2⟩ := x
    cases r with
    | er c pl => rfl
    | ok f => cases f <;> simp
theorem Y0_asgTt {ts : List Tg} {xs : List D} : Y0 (asgT (.t ts) (.tup xs)) ρ KF X = Y0 (asgTs ts xs) ρ KF X := by rw [asgT]
theorem Y0_asgTs0 : Y0 (asgTs [] []) ρ KF X = KF .nx ρ := by rw [asgTs]; rfl
theorem Y0_asgTsC {t : Tg} {ts : List Tg} {x : D} {xs : List D} : Y0 (asgTs (t :: ts) (x :: xs)) ρ KF X = Y0 (evSeq (asgT t x) (asgTs ts xs)) ρ KF X := by rw [asgTs]
theorem Y0_part0 {KO : Option Int → List Sl → Prop} : Y0 (dPart none) ρ KO X = KO none ρ := id rfl
theorem Y0_partS {KO : Option Int → List Sl → Prop} : Y0 (dPart (some m)) ρ KO X = Y0 (dat m) ρ (fun d ρ1 => match d with | .int i => KO (some i) ρ1 | _ => False) X := by
  show Y0 (bnd (dat m) _) ρ KO X = _
  rw [Y0_bnd]; congr 1; funext d ρ1; cases d <;> rfl
theorem Y0_sl {l u : Option Ev} : Y0 (evSl m l u) ρ K X = Y0 (dat m) ρ (fun d ρ1 => Y0 (dPart l) ρ1 (fun lo ρ2 => Y0 (dPart u) ρ2 (fun hi ρ3 => match d with
    | .lst xs => K (.c (.lst (cut xs lo hi))) ρ3
    | .sq xs => K (.c (.lst (cut xs lo hi))) ρ3
    | .tup xs => K (.d (.tup (cut xs lo hi))) ρ3
    | .str z => z.length ≤ 16777216 ∧ K (.d (.str (cutS z lo hi))) ρ3
    | _ => False) X) X) X := by
  unfold evSl
  rw [Y0_bnd]; congr 1; funext d ρ1
  rw [Y0_bnd]; congr 1; funext lo ρ2
  rw [Y0_bnd]; congr 1; funext hi ρ3
  cases d <;> try rfl
  dsimp only
  rw [Y0_if]
  split
  · rename_i h; simp only [h, true_and]; rfl
  · rename_i h; simp only [h, false_and]; rfl
theorem Y0_rev : Y0 (evRev m) ρ K X = Y0 (dat m) ρ (fun d ρ1 => ∃ xs, d.litems = some xs ∧ K (.c (.lst xs.reverse)) ρ1) X := by
  unfold evRev
  rw [Y0_bnd]; congr 1; funext d ρ1
  cases d.litems with
  | none => exact propext ⟨fun h => h.elim, fun ⟨_, e, _⟩ => by cases e⟩
  | some xs => exact propext ⟨fun h => ⟨xs, rfl, h⟩, fun ⟨_, e, h⟩ => by cases e; exact h⟩
theorem Y0_vNoT : Y0 (vNoT m) ρ K X = Y0 (dat m) ρ (fun d ρ1 => ∃ b, d.truth = some b ∧ K (.d (.bl (!b))) ρ1) X := by
  unfold vNoT; rw [Y0_bnd]; congr 1; funext d ρ1; rw [Y0_opt]
  exact propext ⟨fun ⟨r, e, k⟩ => by obtain ⟨z, e1, e2⟩ := map_some e; subst e2; exact ⟨z, e1, k⟩, fun ⟨z, e, k⟩ => ⟨_, by rw [e]; rfl, k⟩⟩
theorem Y0_maxD {es : List DE} : Y0 (evMaxD es m) ρ K X = Y0 (evDs es) ρ (fun ds ρ1 => Y0 (dat m) ρ1 (fun d ρ2 => match d with | .int n => ∃ z, gMaxD n ds = some z ∧ K (.d z) ρ2 | _ => False) X) X := by
  unfold evMaxD
  rw [Y0_bnd]; congr 1; funext ds ρ1
  rw [Y0_bnd]; congr 1; funext d ρ2
  cases d <;> try rfl
  dsimp only
  rw [Y0_opt]
  exact propext ⟨fun ⟨r, e, k⟩ => by obtain ⟨z, e1, e2⟩ := map_some e; subst e2; exact ⟨z, e1, k⟩, fun ⟨z, e, k⟩ => ⟨_, by rw [e]; rfl, k⟩⟩
theorem Y0_itO {c : Cl} {KI : List D → List Sl → Prop} : Y0 (itO c i m) ρ KI X = Y0 (dat m) ρ (fun d ρ1 => match d with | .obj c' xs => c' = c ∧ (match xs[i]? with | some (.tup ys) => KI ys ρ1 | _ => False) | _ => False) X := by
  unfold itO
  rw [Y0_bnd]; congr 1; funext d ρ1
  cases d <;> try rfl
  dsimp only
  rw [Y0_if]
  split
  · rename_i h
    simp only [h, true_and]
    rename_i xs
    cases xs[i]? with
    | none => rfl
    | some d => cases d <;> rfl
  · rename_i h; simp only [h, false_and]; rfl
/-- a comprehension whose element is a function of the item -/
theorem Y0_lc {vs : List Nat} {it : M (List D)} {tg : Tg} {e : Ev} : Y0 (evLc vs it tg u e) ρ K X = Y0 it ρ (fun xs ρ1 => okOwn ρ1 vs = true ∧ Y0 (lcGo vs tg u e xs []) (wipeR ρ1 vs) (fun acc ρ2 => K (.c (.lst acc)) (restR ρ1 ρ2 vs)) NX) X := by
  unfold evLc
  rw [Y0_bnd]; congr 1; funext xs ρ1
  unfold lcRun
  conv => lhs; unfold Y0
  by_cases h : okOwn ρ1 vs = true
  · simp only [h, if_true, true_and]
    unfold Y0
    cases lcGo vs tg u e xs [] (wipeR ρ1 vs) with
    | none => rfl
    | some x => obtain ⟨r, ρ2⟩ := x; cases r <;> rfl
  · have h' : okOwn ρ1 vs = false := by simpa using h
    simp [h']
/-- .. item by item: f x is none where the test fails -/
theorem Y0_lcGo {vs : List Nat} {tg : Tg} {e : Ev} {f : D → Option D} {ρ0 : List Sl} {KS : List D → List Sl → Prop} {P : D → Prop} (st : ∀ (x : D) (acc : List D), P x → acc.length < 16777216 → Y0 (asgT tg x) ρ0 (fun g ρ1 => g = .nx ∧ Y0 (noEr u) ρ1 (fun b ρ2 => if b = true then Y0 (dat (noEr e)) ρ2 (fun d ρ3 => f x = some d ∧ wipeR ρ3 vs = ρ0) NX else f x = none ∧ wipeR ρ2 vs = ρ0) NX) NX) :
    ∀ (xs acc : List D), (∀ x ∈ xs, P x) → acc.length + xs.length ≤ 16777216 → KS (acc ++ xs.filterMap f) ρ0 → Y0 (lcGo vs tg u e xs acc) ρ0 KS X
  | [], acc, _, _, h => by rw [List.filterMap_nil, List.append_nil] at h; exact h
  | x :: xs, acc, hp, hl, h => by
    rw [List.length_cons] at hl
    obtain ⟨g, ρ1, e1, rfl, z⟩ := (st x acc (hp x List.mem_cons_self) (by omega)).mk
    obtain ⟨b, ρ2, e2, z⟩ := z.mk
    have hp' : ∀ y ∈ xs, P y := fun y hy => hp y (List.mem_cons_of_mem _ hy)
    conv => unfold Y0 lcGo
    rw [e1]
    show Y0 (bnd _ _) ρ1 KS X
    rw [Y0_bnd]
    refine Y0.of e2 ?_
    cases b with
    | false =>
      simp only [Bool.false_eq_true, if_false] at z ⊢
      obtain ⟨z1, z2⟩ := z
      have : Y0 (fun ρ => lcGo vs tg u e xs acc (wipeR ρ vs)) ρ2 KS X = Y0 (lcGo vs tg u e xs acc) (wipeR ρ2 vs) KS X := rfl
      rw [this, z2]
      refine Y0_lcGo st xs acc hp' (by omega) ?_
      rw [List.filterMap_cons, z1] at h
      exact h
    | true =>
      simp only [if_true] at z ⊢
      obtain ⟨d, ρ3, e3, z1, z2⟩ := z.mk
      rw [Y0_bnd]
      refine Y0.of e3 ?_
      rw [if_pos (by omega)]
      have : Y0 (fun ρ => lcGo vs tg u e xs (acc ++ [d]) (wipeR ρ vs)) ρ3 KS X = Y0 (lcGo vs tg u e xs (acc ++ [d])) (wipeR ρ3 vs) KS X := rfl
      rw [this, z2]
      refine Y0_lcGo st xs (acc ++ [d]) hp' (by rw [List.length_append, List.length_singleton]; omega) ?_
      rw [List.filterMap_cons, z1] at h
      simpa using h
theorem Y0_lc2 {vs vs1 : List Nat} {it it1 : M (List D)} {tg tg1 : Tg} {v : M Bool} {e : Ev} : Y0 (evLc2 vs it tg u it1 vs1 tg1 v e) ρ K X = Y0 it ρ (fun xs ρ1 => okOwn ρ1 vs = true ∧ Y0 (lcGo2 vs tg u it1 vs1 tg1 v e xs []) (wipeR ρ1 vs) (fun acc ρ2 => K (.c (.lst acc)) (restR ρ1 ρ2 vs)) NX) X := by
  unfold evLc2
  rw [Y0_bnd]; congr 1; funext xs ρ1
  unfold lcRun
  conv => lhs; unfold Y0
  by_cases h : okOwn ρ1 vs = true
  · simp only [h, if_true, true_and]
    unfold Y0
    cases lcGo2 vs tg u it1 vs1 tg1 v e xs [] (wipeR ρ1 vs) with
    | none => rfl
    | some x => obtain ⟨r, ρ2⟩ := x; cases r <;> rfl
  · have h' : okOwn ρ1 vs = false := by simpa using h
    simp [h']
theorem Y0_Sc2 {vs vs1 : List Nat} {it : M (List D)} {tg tg1 : Tg} {v : M Bool} {lo hi : Int} {e : Ev} : Y0 (evSc2 vs it tg u lo hi vs1 tg1 v e) ρ K X = Y0 (evLc2 vs it tg u (pur (rngD lo (hi - lo).toNat)) vs1 tg1 v e) ρ (fun r ρ1 => match r with
    | .c (.lst xs) => ∃ ns, D.ints xs = some ns ∧ ns.length < 4000 ∧ K (.c (.lst ((srtI ns).map .int))) ρ1
    | _ => False) X := by
  unfold evSc2
  rw [Y0_bnd]; congr 1; funext r ρ1
  cases r with
  | d d => rfl
  | c c =>
    cases c <;> try rfl
    rename_i xs
    dsimp only
    cases D.ints xs with
    | none => exact propext ⟨fun k => k.elim, fun ⟨_, e, _⟩ => by cases e⟩
    | some ns =>
      dsimp only
      split
      · rename_i h
        exact propext ⟨fun k => ⟨ns, rfl, h, k⟩, fun ⟨_, e, _, k⟩ => by cases e; exact k⟩
      · rename_i h
        exact propext ⟨fun k => k.elim, fun ⟨_, e, l, _⟩ => by cases e; exact absurd l h⟩
theorem Y0_Rng2 {fa fb : Ev} {k : Int → Int → M Fl} : Y0 (evRng2 i fa fb k) ρ KF X = Y0 (dat fa) ρ (fun x ρ1 => Y0 (dat fb) ρ1 (fun y ρ2 => match x, y with
    | .int lo, .int hi => (-(2 ^ 62) ≤ lo ∧ lo < 2 ^ 62 ∧ -(2 ^ 62) ≤ hi ∧ hi < 2 ^ 62) ∧ ∃ s, ρ2[i]? = some s ∧ canSet s = true ∧ Y0 (k lo hi) (ρ2.set i .un) KF X
    | _, _ => False) X) X := by
  unfold evRng2
  rw [Y0_bnd]; congr 1; funext x ρ1
  rw [Y0_bnd]; congr 1; funext y ρ2
  cases x <;> try rfl
  rename_i lo
  cases y <;> try rfl
  rename_i hi
  dsimp only
  split
  · rename_i h
    unfold Y0
    dsimp only
    cases ρ2[i]? with
    | none => exact propext ⟨fun k => k.elim, fun ⟨_, _, e, _⟩ => by cases e⟩
    | some s =>
      have go : ∀ {P : Prop}, canSet s = true → (P = (_ ∧ ∃ s', some s = some s' ∧ canSet s' = true ∧ P)) := fun {P} z => propext ⟨fun q => ⟨h, s, rfl, z, q⟩, fun ⟨_, _, _, _, q⟩ => q⟩
      cases s with
      | cel k c => cases k with
        | own => exact go rfl
        | par => exact propext ⟨fun k => k.elim, fun ⟨_, _, e, z, _⟩ => by cases e; cases z⟩
      | _ => exact go rfl
  · rename_i h
    exact propext ⟨fun k => k.elim, fun k => absurd k.1 h⟩
theorem Y0_asgX : Y0 (evAsgX i m) ρ KF X = Y0 m ρ (fun r ρ1 => match r with | .c c => Y0 (PL.setC i c) ρ1 KF X | .d d => Y0 (PL.setD i d) ρ1 KF X) X := by
  unfold evAsgX
  rw [Y0_bnd]; congr 1; funext r ρ1
  cases r <;> rfl
/-- exceptions -/
theorem Y0.okE {α : Type} {m : M α} {ρ ρ1 : List Sl} {a : α} {K : α → List Sl → Prop} {X : XC} (e : m ρ = some (.ok a, ρ1)) : Y0 m ρ K X = K a ρ1 := by unfold Y0; rw [e]
theorem Y0.erE {α : Type} {m : M α} {ρ ρ1 : List Sl} {c : Cl} {pl : Option D} {K : α → List Sl → Prop} {X : XC} (e : m ρ = some (.er c pl, ρ1)) : Y0 m ρ K X = X c pl ρ1 := by unfold Y0; rw [e]
theorem Y0.noE {α : Type} {m : M α} {ρ : List Sl} {K : α → List Sl → Prop} {X : XC} (e : m ρ = none) : Y0 m ρ K X = False := by unfold Y0; rw [e]
theorem Y0.cg {α : Type} {m m' : M α} {ρ ρ' : List Sl} {K : α → List Sl → Prop} {X : XC} (e : m ρ = m' ρ') : Y0 m ρ K X = Y0 m' ρ' K X := by unfold Y0; rw [e]
theorem Y0_suiteO : Y0 (suiteO t) ρ KF X = (noExn ρ = true ∧ Y0 t ρ (fun f ρ2 => noExn ρ2 = true ∧ KF f ρ2) NX) := by
  by_cases h : noExn ρ = true
  · cases e : t ρ with
    | none => rw [Y0.noE (m := suiteO t) (by unfold suiteO; rw [if_pos h, e]), Y0.noE e]; simp
    | some x =>
      obtain ⟨r, ρ2⟩ := x
      cases r with
      | er c pl => rw [Y0.noE (m := suiteO t) (by unfold suiteO; rw [if_pos h, e]), Y0.erE e]; simp
      | ok f =>
        rw [Y0.okE e]
        by_cases h2 : noExn ρ2 = true
        · rw [Y0.okE (m := suiteO t) (a := f) (ρ1 := ρ2) (by unfold suiteO; rw [if_pos h, e]; simp only [h2, if_true])]; simp [h, h2]
        · rw [Y0.noE (m := suiteO t) (by unfold suiteO; rw [if_pos h, e]; simp only [h2]; rfl)]; simp [h2]
  · rw [Y0.noE (m := suiteO t) (by unfold suiteO; rw [if_neg h])]; simp [h]
theorem Y0_suiteA {c : Cl} {pl : Option D} : Y0 (suiteA i c pl t) ρ KF X = (noExn ρ = true ∧ ∃ z, ρ[i]? = some z ∧ canSet z = true ∧ Y0 t (ρ.set i (.exn c pl)) (fun f ρ2 => noExn (ρ2.set i .un) = true ∧ KF f (ρ2.set i .un)) NX) := by
  by_cases h : noExn ρ = true
  · cases hz : ρ[i]? with
    | none => rw [Y0.noE (m := suiteA i c pl t) (by unfold suiteA; rw [if_pos h, hz])]; simp
    | some z =>
      by_cases hc : canSet z = true
      · have e0 : suiteA i c pl t ρ = (match t (ρ.set i (.exn c pl)) with | some (.ok f, ρ2) => if noExn (ρ2.set i .un) = true then some (.ok f, ρ2.set i .un) else none | _ => none) := by
          unfold suiteA
          rw [if_pos h, hz]
          cases z with
          | cel k cc => cases k with
            | own => rfl
            | par => cases hc
          | _ => rfl
        have right : (noExn ρ = true ∧ ∃ z', some z = some z' ∧ canSet z' = true ∧ Y0 t (ρ.set i (.exn c pl)) (fun f ρ2 => noExn (ρ2.set i .un) = true ∧ KF f (ρ2.set i .un)) NX) = Y0 t (ρ.set i (.exn c pl)) (fun f ρ2 => noExn (ρ2.set i .un) = true ∧ KF f (ρ2.set i .un)) NX := propext ⟨fun ⟨_, _, _, _, q⟩ => q, fun q => ⟨h, z, rfl, hc, q⟩⟩
        rw [right]
        cases e : t (ρ.set i (.exn c pl)) with
        | none => rw [e] at e0; rw [Y0.noE e0, Y0.noE e]
        | some x =>
          obtain ⟨r, ρ2⟩ := x
          cases r with
          | er c pl => rw [e] at e0; rw [Y0.noE e0, Y0.erE e]
          | ok f =>
            rw [e] at e0
            rw [Y0.okE e]
            by_cases h2 : noExn (ρ2.set i .un) = true
            · rw [Y0.okE (e0.trans (if_pos h2))]; simp [h2]
            · rw [Y0.noE (e0.trans (if_neg h2))]; simp [h2]
      · have : suiteA i c pl t ρ = none := by
          unfold suiteA
          rw [if_pos h, hz]
          cases z with
          | cel k cc => cases k with
            | own => exact absurd rfl hc
            | par => rfl
          | _ => exact absurd rfl hc
        rw [Y0.noE this]
        exact propext ⟨fun q => q.elim, fun ⟨_, _, e, q, _⟩ => by cases e; exact hc q⟩
  · rw [Y0.noE (m := suiteA i c pl t) (by unfold suiteA; rw [if_neg h])]; simp [h]
theorem Y0_tryO {cat : List (Cl × Bool)} : Y0 (evTryO s cat t) ρ KF X = Y0 s ρ KF (fun c pl ρ1 => match cat.lookup c with | some true => noExn ρ1 = true ∧ Y0 t ρ1 (fun f ρ2 => noExn ρ2 = true ∧ KF f ρ2) NX | some false => X c pl ρ1 | none => False) := by
  cases e : s ρ with
  | none => rw [Y0.noE e, Y0.noE (m := evTryO s cat t) (by unfold evTryO; rw [e])]
  | some x =>
    obtain ⟨r, ρ1⟩ := x
    cases r with
    | ok f => rw [Y0.okE e, Y0.okE (m := evTryO s cat t) (a := f) (ρ1 := ρ1) (by unfold evTryO; rw [e])]
    | er c pl =>
      rw [Y0.erE e]
      have e0 : evTryO s cat t ρ = (match cat.lookup c with | some true => suiteO t ρ1 | some false => some (.er c pl, ρ1) | none => none) := by unfold evTryO; rw [e] <;> rfl
      cases el : cat.lookup c with
      | none => rw [el] at e0; rw [Y0.noE e0]
      | some b =>
        rw [el] at e0
        cases b with
        | false => rw [Y0.erE e0]
        | true => rw [Y0.cg (m' := suiteO t) (ρ' := ρ1) e0, Y0_suiteO]
theorem Y0_tryA {cat : List (Cl × Bool)} : Y0 (evTryA i s cat t) ρ KF X = Y0 s ρ KF (fun c pl ρ1 => match cat.lookup c with
    | some true => noExn ρ1 = true ∧ ∃ z, ρ1[i]? = some z ∧ canSet z = true ∧ Y0 t (ρ1.set i (.exn c pl)) (fun f ρ2 => noExn (ρ2.set i .un) = true ∧ KF f (ρ2.set i .un)) NX
    | some false => X c pl ρ1
    | none => False) := by
  cases e : s ρ with
  | none => rw [Y0.noE e, Y0.noE (m := evTryA i s cat t) (by unfold evTryA; rw [e])]
  | some x =>
    obtain ⟨r, ρ1⟩ := x
    cases r with
    | ok f => rw [Y0.okE e, Y0.okE (m := evTryA i s cat t) (a := f) (ρ1 := ρ1) (by unfold evTryA; rw [e])]
    | er c pl =>
      rw [Y0.erE e]
      have e0 : evTryA i s cat t ρ = (match cat.lookup c with | some true => suiteA i c pl t ρ1 | some false => some (.er c pl, ρ1) | none => none) := by unfold evTryA; rw [e] <;> rfl
      cases el : cat.lookup c with
      | none => rw [el] at e0; rw [Y0.noE e0]
      | some b =>
        rw [el] at e0
        cases b with
        | false => rw [Y0.erE e0]
        | true => rw [Y0.cg (m' := suiteA i c pl t) (ρ' := ρ1) e0, Y0_suiteA]
theorem Y0_tryM {cs : List Clp} : Y0 (evTryM s cs) ρ KF X = Y0 s ρ KF (fun c pl ρ1 => Y0 (pick cs c pl) ρ1 KF X) := by
  cases e : s ρ with
  | none => rw [Y0.noE e, Y0.noE (m := evTryM s cs) (by unfold evTryM; rw [e])]
  | some x =>
    obtain ⟨r, ρ1⟩ := x
    cases r with
    | ok f => rw [Y0.okE e, Y0.okE (m := evTryM s cs) (a := f) (ρ1 := ρ1) (by unfold evTryM; rw [e])]
    | er c pl =>
      rw [Y0.erE e]
      have e0 : evTryM s cs ρ = pick cs c pl ρ1 := by unfold evTryM; rw [e] <;> rfl
      rw [Y0.cg e0]
theorem Y0_pick0 {c : Cl} {pl : Option D} : Y0 (pick [] c pl) ρ KF X = X c pl ρ := id rfl
theorem Y0_pickC {c : Cl} {pl : Option D} {cat : List (Cl × Bool)} {cs : List Clp} : Y0 (pick ((i, cat, t) :: cs) c pl) ρ KF X = match cat.lookup c with
    | some true => Y0 (suiteA i c pl t) ρ KF X
    | some false => Y0 (pick cs c pl) ρ KF X
    | none => False := by
  have e0 : pick ((i, cat, t) :: cs) c pl ρ = (match cat.lookup c with | some true => suiteA i c pl t ρ | some false => pick cs c pl ρ | none => none) := rfl
  cases el : cat.lookup c with
  | none => rw [el] at e0; rw [Y0.noE e0]
  | some b =>
    rw [el] at e0
    cases b with
    | true => exact Y0.cg e0
    | false => exact Y0.cg e0
theorem Y0_isE {tbl : List (TyN × Bool)} : Y0 (evIsE i tbl) ρ K X = match ρ[i]? with | some (.exn c _) => ∃ b, tbl.lookup (.o c) = some b ∧ K (.d (.bl b)) ρ | _ => False := by
  unfold Y0 evIsE
  cases ρ[i]? with
  | none => rfl
  | some s => cases s with
    | exn c pl =>
      dsimp only
      cases tbl.lookup (.o c) with
      | none => exact propext ⟨fun h => h.elim, fun ⟨_, e, _⟩ => by cases e⟩
      | some b => exact propext ⟨fun h => ⟨b, rfl, h⟩, fun ⟨_, e, h⟩ => by cases e; exact h⟩
    | _ => rfl
theorem Y0_js0 {acc : Str} {KZ : Str → List Sl → Prop} : Y0 (evJs [] acc) ρ KZ X = KZ acc ρ := id rfl
theorem Y0_jsC {ms : List Ev} {acc : Str} {KZ : Str → List Sl → Prop} : Y0 (evJs (m :: ms) acc) ρ KZ X = Y0 (dat m) ρ (fun d ρ1 => match d with | .str y => (acc ++ y).length ≤ 16777216 ∧ Y0 (evJs ms (acc ++ y)) ρ1 KZ X | _ => False) X := by
  show Y0 (bnd (dat m) _) ρ KZ X = _
  rw [Y0_bnd]; congr 1; funext d ρ1
  cases d <;> try rfl
  rename_i y
  show Y0 (if (acc ++ y).length ≤ 16777216 then evJs ms (acc ++ y) else fai) ρ1 KZ X = _
  rw [Y0_if]
  by_cases h : (acc ++ y).length ≤ 16777216
  · rw [if_pos h]; exact propext ⟨fun q => ⟨h, q⟩, fun q => q.2⟩
  · rw [if_neg h]; exact propext ⟨fun q => q.elim, fun q => h q.1⟩
theorem Y0_jn {ms : List Ev} : Y0 (evJn ms) ρ K X = Y0 (evJs ms Str.empty) ρ (fun s ρ1 => K (.d (.str s)) ρ1) X := by unfold evJn; rw [Y0_bnd]; rfl
theorem ne_0 : noExn [] = true := id rfl
theorem ne_d {d : D} : noExn (.dat d :: ρ) = noExn ρ := id rfl
theorem ne_u : noExn (.un :: ρ) = noExn ρ := id rfl
theorem ne_c {k : CK} {c : CC} : noExn (.cel k c :: ρ) = noExn ρ := id rfl
theorem ne_x {c : Cl} {pl : Option D} : noExn (.exn c pl :: ρ) = false := id rfl
/-! dicts -/
theorem Y0_isK {P : Rv → List Sl → Prop} : Y0 (isK j) ρ P X = match ρ[j]? with | some (.cel _ (.dK _)) => P (.d .non) ρ | _ => False := by
  unfold Y0 isK
  cases ρ[j]? with
  | none => rfl
  | some s => cases s with
    | cel k c => cases c <;> rfl
    | _ => rfl
theorem Y0_getK {f : List (Key × D) → Option D} : Y0 (getK j f) ρ K X = match ρ[j]? with | some (.cel _ (.dK kvs)) => ∃ d, f kvs = some d ∧ K (.d d) ρ | _ => False := by
  unfold Y0 getK
  cases ρ[j]? with
  | none => rfl
  | some s => cases s with
    | cel k c => cases c with
      | dK kvs =>
        dsimp only
        cases f kvs with
        | none => exact propext ⟨fun h => h.elim, fun ⟨_, e, _⟩ => by cases e⟩
        | some d => exact propext ⟨fun h => ⟨d, rfl, h⟩, fun ⟨_, e, h⟩ => by cases e; exact h⟩
      | _ => rfl
    | _ => rfl
theorem Y0_dget : Y0 (evDGet j m) ρ K X = match ρ[j]? with | some (.cel _ (.dK _)) => Y0 (dat m) ρ (fun k ρ1 => match ρ1[j]? with | some (.cel _ (.dK kvs)) => ∃ d, k.key.bind (dval kvs) = some d ∧ K (.d d) ρ1 | _ => False) X | _ => False := by
  unfold evDGet
  rw [Y0_bnd, Y0_isK]
  simp only [Y0_bnd, Y0_getK]
theorem Y0_dget2 : Y0 (evDGet2 j m a) ρ K X = match ρ[j]? with | some (.cel _ (.dK _)) => Y0 (dat m) ρ (fun k ρ1 => Y0 (dat a) ρ1 (fun d ρ2 => match ρ2[j]? with | some (.cel _ (.dK kvs)) => ∃ z, k.key.map (fun k => (dval kvs k).getD d) = some z ∧ K (.d z) ρ2 | _ => False) X) X | _ => False := by
  unfold evDGet2
  rw [Y0_bnd, Y0_isK]
  simp only [Y0_bnd, Y0_getK]
theorem Y0_dput : Y0 (evDPut j m a) ρ KF X = Y0 (dat a) ρ (fun d ρ1 => match ρ1[j]? with | some (.cel _ (.dK _)) => Y0 (dat m) ρ1 (fun k ρ2 => (match ρ2[j]? with | some (.cel c (.dK kvs)) => ∃ k', k.key = some k' ∧ kvs.length < 16777216 ∧ KF .nx (ρ2.set j (.cel c (.dK (dput kvs k' d)))) | _ => False)) X | _ => False) X := by
  unfold evDPut
  rw [Y0_bnd]; congr 1; funext d ρ1
  rw [Y0_bnd, Y0_isK]
  cases ρ1[j]? with
  | none => rfl
  | some s => cases s with
    | cel k c => cases c with
      | dK kvs =>
        dsimp only
        rw [Y0_bnd]; congr 1; funext kk ρ2
        unfold Y0
        dsimp only
        generalize ρ2[j]? = z
        cases z with
        | none => rfl
        | some s => cases s with
          | cel k c => cases c with
            | dK kvs =>
              dsimp only
              cases kk.key with
              | none => exact propext ⟨fun h => h.elim, fun ⟨_, e, _⟩ => (by cases e)⟩
              | some k' =>
                dsimp only
                by_cases h : kvs.length < 16777216
                · rw [if_pos h]; exact propext ⟨fun q => ⟨k', rfl, h, q⟩, fun ⟨_, e, _, q⟩ => by cases e; exact q⟩
                · rw [if_neg h]; exact propext ⟨fun q => q.elim, fun ⟨_, _, q, _⟩ => h q⟩
            | _ => rfl
          | _ => rfl
      | _ => rfl
    | _ => rfl
theorem Y0_sortDR : Y0 (evSortDR j) ρ K X = match ρ[j]? with | some (.cel _ (.dK kvs)) => ∃ ks, keysI kvs = some ks ∧ K (.c (.lst ((down ks).map D.int))) ρ | _ => False := by
  unfold Y0 evSortDR
  cases ρ[j]? with
  | none => rfl
  | some s => cases s with
    | cel k c => cases c with
      | dK kvs =>
        dsimp only
        cases keysI kvs with
        | none => exact propext ⟨fun h => h.elim, fun ⟨_, e, _⟩ => by cases e⟩
        | some d => exact propext ⟨fun h => ⟨d, rfl, h⟩, fun ⟨_, e, h⟩ => by cases e; exact h⟩
      | _ => rfl
    | _ => rfl
theorem Y0_asgN {d : D} : Y0 (asgT (.n i) d) ρ KF X = Y0 (setD i d) ρ KF X := id rfl
theorem Y0_itL {KI : List D → List Sl → Prop} : Y0 (itL m) ρ KI X = Y0 (dat m) ρ (fun d ρ1 => ∃ xs, d.litems = some xs ∧ KI xs ρ1) X := by unfold itL; rw [Y0_bnd]; congr 1; funext d ρ1; rw [Y0_opt]
theorem Y0_itT {KI : List D → List Sl → Prop} : Y0 (itT m) ρ KI X = Y0 (dat m) ρ (fun d ρ1 => ∃ xs, d.titems = some xs ∧ KI xs ρ1) X := by unfold itT; rw [Y0_bnd]; congr 1; funext d ρ1; rw [Y0_opt]
theorem Y0_itET {KI : List D → List Sl → Prop} : Y0 (itET m) ρ KI X = Y0 (dat m) ρ (fun d ρ1 => match d with | .tup xs => KI (enumD xs) ρ1 | _ => False) X := by
  unfold itET; rw [Y0_bnd]; congr 1; funext d ρ1
  cases d <;> rfl
theorem Y0_itEL {KI : List D → List Sl → Prop} : Y0 (itEL m) ρ KI X = Y0 (dat m) ρ (fun d ρ1 => match d with | .lst xs => KI (enumD xs) ρ1 | .sq xs => KI (enumD xs) ρ1 | _ => False) X := by
  unfold itEL; rw [Y0_bnd]; congr 1; funext d ρ1
  cases d <;> rfl
theorem Y0_Txm {g : Str → List D → Option D} {o : Ev} {es : List DE} : Y0 (evTxm g o es) ρ K X = Y0 (dat o) ρ (fun x ρ1 => match x with | .str a => Y0 (evDs es) ρ1 (fun ds ρ2 => ∃ z, g a ds = some z ∧ K (.d z) ρ2) X | _ => False) X := by
  unfold evTxm; rw [Y0_bnd]; congr 1; funext x ρ1
  cases x <;> try rfl
  rename_i a
  dsimp only
  rw [Y0_bnd]; congr 1; funext ds ρ2
  rw [Y0_opt]
  cases g a ds with
  | none => exact propext ⟨fun ⟨_, e, _⟩ => (by cases e), fun ⟨_, e, _⟩ => (by cases e)⟩
  | some z => exact propext ⟨fun ⟨_, e, k⟩ => (by cases e; exact ⟨z, rfl, k⟩), fun ⟨_, e, k⟩ => (by cases e; exact ⟨_, rfl, k⟩)⟩
theorem Y0_cnt {o e : Ev} : Y0 (evCnt o e) ρ K X = Y0 (dat o) ρ (fun x ρ1 => match x with | .str a => Y0 (dat e) ρ1 (fun y ρ2 => match y with | .str b => K (.d (.int (Txt.count a b))) ρ2 | _ => False) X | _ => False) X := by
  unfold evCnt; rw [Y0_bnd]; congr 1; funext x ρ1
  cases x <;> try rfl
  dsimp only
  rw [Y0_bnd]; congr 1; funext y ρ2
  cases y <;> rfl
theorem Y0_itZ {KI : List D → List Sl → Prop} : Y0 (itZ a b) ρ KI X = Y0 (dat a) ρ (fun d ρ1 => Y0 (dat b) ρ1 (fun d2 ρ2 => match d, d2 with | .lst xs, .lst ys => KI (zipD xs ys) ρ2 | .tup xs, .tup ys => KI (zipD xs ys) ρ2 | _, _ => False) X) X := by
  unfold itZ; rw [Y0_bnd]; congr 1; funext d ρ1
  rw [Y0_bnd]; congr 1; funext d2 ρ2
  cases d <;> cases d2 <;> rfl
theorem Y0_itZS {KI : List D → List Sl → Prop} : Y0 (itZS a b) ρ KI X = Y0 (dat a) ρ (fun d ρ1 => Y0 (dat b) ρ1 (fun d2 ρ2 => match d, d2 with | .str s, .str t => KI (zipD (chars s) (chars t)) ρ2 | _, _ => False) X) X := by
  unfold itZS; rw [Y0_bnd]; congr 1; funext d ρ1
  rw [Y0_bnd]; congr 1; funext d2 ρ2
  cases d <;> cases d2 <;> rfl
theorem Y0_itR3 {KI : List D → List Sl → Prop} {c : Ev} : Y0 (itR3 a b c) ρ KI X = Y0 (dat a) ρ (fun d ρ1 => Y0 (dat b) ρ1 (fun d2 ρ2 => Y0 (dat c) ρ2 (fun d3 ρ3 => match d, d2, d3 with | .int i, .int j, .int k => stepOk i j k ∧ KI (rng3D i k (Builtin.Range.rangeSize i j k).toNat) ρ3 | _, _, _ => False) X) X) X := by
  unfold itR3; rw [Y0_bnd]; congr 1; funext d ρ1
  rw [Y0_bnd]; congr 1; funext d2 ρ2
  rw [Y0_bnd]; congr 1; funext d3 ρ3
  cases d <;> first | rfl | (cases d2 <;> first | rfl | (cases d3 <;> try rfl))
  dsimp only
  rw [Y0_if]
  split
  · rename_i h; simp only [h, true_and]; rfl
  · rename_i h; simp only [h, false_and]; rfl
theorem Y0_itS {KI : List D → List Sl → Prop} : Y0 (itS m) ρ KI X = Y0 (dat m) ρ (fun d ρ1 => ∃ xs, d.sitems = some xs ∧ KI xs ρ1) X := by
  unfold itS; rw [Y0_bnd]; congr 1; funext d ρ1; rw [Y0_opt]
theorem Y0_join : Y0 (evJoin a b) ρ K X = Y0 (dat a) ρ (fun x ρ1 => match x with | .str z => Y0 (dat b) ρ1 (fun d ρ2 => ∃ r, dJoin z d = some r ∧ K (.d r) ρ2) X | _ => False) X := by
  unfold evJoin; rw [Y0_bnd]; congr 1; funext x ρ1
  cases x <;> try rfl
  dsimp only
  rw [Y0_bnd]; congr 1; funext d ρ2; rw [Y0_opt]
  exact propext ⟨fun ⟨r, e, k⟩ => by obtain ⟨z, e1, e2⟩ := map_some e; subst e2; exact ⟨z, e1, k⟩, fun ⟨z, e, k⟩ => ⟨_, by rw [e]; rfl, k⟩⟩
theorem Y0_xf {c : Cl} : Y0 (evXf i c) ρ K X = match ρ[i]? with | some (.exn c' (some d)) => c' = c ∧ K (.d d) ρ | _ => False := by
  unfold Y0 evXf
  cases ρ[i]? with
  | none => rfl
  | some s => cases s with
    | exn c' pl => cases pl with
      | none => rfl
      | some d =>
        dsimp only
        by_cases h : c' = c
        · rw [if_pos h]; simp only [h, true_and]
        · rw [if_neg h]; simp only [h, false_and]
    | _ => rfl
theorem Y0_itR1 {KI : List D → List Sl → Prop} : Y0 (itR1 m) ρ KI X = Y0 (dat m) ρ (fun d ρ1 => match d with | .int j => (-(2 ^ 62) ≤ j ∧ j < 2 ^ 62) ∧ KI (rngD 0 j.toNat) ρ1 | _ => False) X := by
  unfold itR1; rw [Y0_bnd]; congr 1; funext d ρ1
  cases d <;> try rfl
  dsimp only
  rw [Y0_if]
  split
  · rename_i h; simp only [h, true_and]; rfl
  · rename_i h; simp only [h, false_and]; rfl
theorem Y0_itR2 {KI : List D → List Sl → Prop} : Y0 (itR2 a b) ρ KI X = Y0 (dat a) ρ (fun d ρ1 => Y0 (dat b) ρ1 (fun d2 ρ2 => match d, d2 with | .int i, .int j => (-(2 ^ 62) ≤ i ∧ i < 2 ^ 62 ∧ -(2 ^ 62) ≤ j ∧ j < 2 ^ 62) ∧ KI (rngD i (j - i).toNat) ρ2 | _, _ => False) X) X := by
  unfold itR2; rw [Y0_bnd]; congr 1; funext d ρ1
  rw [Y0_bnd]; congr 1; funext d2 ρ2
  cases d <;> cases d2 <;> try rfl
  dsimp only
  rw [Y0_if]
  split
  · rename_i h; simp only [h, true_and]; rfl
  · rename_i h; simp only [h, false_and]; rfl
end
end PL
end
section
namespace PL
open PySem PySem.Spec PyProof.Rows L2
/-! ### the same, closed: simp stays out of what comes behind -/
structure Lck {α : Type} (K : α → List Sl → Prop) (X : XC) : Type where
@[irreducible] def Y {α : Type} (m : M α) (ρ : List Sl) (K : α → List Sl → Prop) (X : XC) (_ : Lck K X := ⟨⟩) : Prop := Y0 m ρ K X
theorem Y_eq {α : Type} {m : M α} {ρ : List Sl} {K : α → List Sl → Prop} {X : XC} {l : Lck K X} : Y m ρ K X l = Y0 m ρ K X := by unfold Y; rfl
section
variable {α β : Type} {ρ : List Sl} {X X' : XC}
theorem Y.mono {m : M α} {K K' : α → List Sl → Prop} (h : Y m ρ K X) (k : ∀ a ρ1, K a ρ1 → K' a ρ1) (x : ∀ c pl ρ1, X c pl ρ1 → X' c pl ρ1) : Y m ρ K' X' := by
  simp only [Y_eq] at *
  exact Y0.mono h k x
theorem Y.mk {m : M α} {K : α → List Sl → Prop} (h : Y m ρ K NX) : ∃ a ρ1, m ρ = some (.ok a, ρ1) ∧ K a ρ1 := by
  simp only [Y_eq] at *
  exact Y0.mk h
theorem Y.of {m : M α} {K : α → List Sl → Prop} {a : α} {ρ1 : List Sl} (e : m ρ = some (.ok a, ρ1)) (h : K a ρ1) : Y m ρ K X := by
  simp only [Y_eq] at *
  exact Y0.of e h
variable {K : α → List Sl → Prop}
theorem Y_pur {a : α} : Y (pur a) ρ K X = K a ρ := by
  simp only [Y_eq]
  exact Y0_pur
theorem Y_fai : Y (fai : M α) ρ K X = False := by
  simp only [Y_eq]
  exact Y0_fai
theorem Y_bnd {m : M β} {k : β → M α} : Y (bnd m k) ρ K X = Y m ρ (fun a ρ1 => Y (k a) ρ1 K X) X := by
  simp only [Y_eq]
  exact Y0_bnd
theorem Y_noEr {m : M α} : Y (noEr m) ρ K X = Y m ρ K NX := by
  simp only [Y_eq]
  exact Y0_noEr
end
section
variable {ρ : List Sl} {X : XC} {K : Rv → List Sl → Prop} {KD : D → List Sl → Prop} {KB : Bool → List Sl → Prop} {KF : Fl → List Sl → Prop} {m a b c : Ev} {s t : M Fl} {u v : M Bool} {i j n : Nat}
theorem Y_vD {d : D} : Y (vD d) ρ K X = K (.d d) ρ := by
  simp only [Y_eq]
  exact Y0_vD
theorem Y_evV : Y (evV i) ρ K X = match ρ[i]? with | some (.dat d) => K (.d d) ρ | _ => False := by
  simp only [Y_eq]
  exact Y0_evV
theorem Y_evF : Y (evF i) ρ K X = match ρ[i]? with | some (.dat d) => K (.d d) ρ | some (.cel .own c) => (match c.froz with | some d => K (.d d) (ρ.set i (.dat d)) | none => False) | _ => False := by
  simp only [Y_eq]
  exact Y0_evF
theorem Y_evM : Y (evM i) ρ K X = match ρ[i]? with | some (.dat d) => K (.d d) ρ | some (.cel .own c) => K (.c c) (ρ.set i .un) | _ => False := by
  simp only [Y_eq]
  exact Y0_evM
theorem Y_dat : Y (dat m) ρ KD X = Y m ρ (fun r ρ1 => match r with | .d d => KD d ρ1 | .c c => ∃ d, c.froz = some d ∧ KD d ρ1) X := by
  simp only [Y_eq]
  exact Y0_dat
theorem Y_tst : Y (tst m) ρ KB X = Y (dat m) ρ (fun d ρ1 => match d with | .bl b => KB b ρ1 | _ => False) X := by
  simp only [Y_eq]
  exact Y0_tst
theorem Y_ev2 {g : D → D → Option D} : Y (ev2 g a b) ρ K X = Y (dat a) ρ (fun x ρ1 => Y (dat b) ρ1 (fun y ρ2 => ∃ z, g x y = some z ∧ K (.d z) ρ2) X) X := by
  simp only [Y_eq]
  exact Y0_ev2
theorem Y_ev2c {g : D → D → Option CC} : Y (ev2c g a b) ρ K X = Y (dat a) ρ (fun x ρ1 => Y (dat b) ρ1 (fun y ρ2 => ∃ z, g x y = some z ∧ K (.c z) ρ2) X) X := by
  simp only [Y_eq]
  exact Y0_ev2c
theorem Y_ev1 {g : D → Option D} : Y (ev1 g a) ρ K X = Y (dat a) ρ (fun x ρ1 => ∃ z, g x = some z ∧ K (.d z) ρ1) X := by
  simp only [Y_eq]
  exact Y0_ev1
theorem Y_seq : Y (evSeq s t) ρ KF X = Y s ρ (fun f ρ1 => match f with | .nx => Y t ρ1 KF X | f => KF f ρ1) X := by
  simp only [Y_eq]
  exact Y0_seq
theorem Y_evIf : Y (evIf u s t) ρ KF X = Y u ρ (fun c ρ1 => if c = true then Y s ρ1 KF X else Y t ρ1 KF X) X := by
  simp only [Y_eq]
  exact Y0_evIf
theorem Y_tNo : Y (tNo u) ρ KB X = Y u ρ (fun c ρ1 => KB (!c) ρ1) X := by
  simp only [Y_eq]
  exact Y0_tNo
theorem Y_tAn : Y (tAn u v) ρ KB X = Y u ρ (fun c ρ1 => if c = true then Y v ρ1 KB X else KB false ρ1) X := by
  simp only [Y_eq]
  exact Y0_tAn
theorem Y_tOo : Y (tOo u v) ρ KB X = Y u ρ (fun c ρ1 => if c = true then KB true ρ1 else Y v ρ1 KB X) X := by
  simp only [Y_eq]
  exact Y0_tOo
theorem Y_vNo : Y (vNo m) ρ K X = Y (tst m) ρ (fun c ρ1 => K (.d (.bl (!c))) ρ1) X := by
  simp only [Y_eq]
  exact Y0_vNo
theorem Y_vAn : Y (vAn a b) ρ K X = Y (tst a) ρ (fun c ρ1 => if c = true then Y (dat b) ρ1 (fun d ρ2 => K (.d d) ρ2) X else K (.d (.bl false)) ρ1) X := by
  simp only [Y_eq]
  exact Y0_vAn
theorem Y_vOo : Y (vOo a b) ρ K X = Y (tst a) ρ (fun c ρ1 => if c = true then K (.d (.bl true)) ρ1 else Y (dat b) ρ1 (fun d ρ2 => K (.d d) ρ2) X) X := by
  simp only [Y_eq]
  exact Y0_vOo
theorem Y_vIf : Y (vIf u a b) ρ K X = Y u ρ (fun c ρ1 => if c = true then Y a ρ1 K X else Y b ρ1 K X) X := by
  simp only [Y_eq]
  exact Y0_vIf
theorem Y_ch2 {g g' : D → D → Option D} : Y (ch2 g g' a b c) ρ K X = Y (dat a) ρ (fun x ρ1 => Y (dat b) ρ1 (fun y ρ2 => ∃ z, g x y = some (.bl z) ∧ if z = true then Y (dat c) ρ2 (fun w ρ3 => ∃ z2, g' y w = some z2 ∧ K (.d z2) ρ3) X else K (.d (.bl false)) ρ2) X) X := by
  simp only [Y_eq]
  exact Y0_ch2
theorem Y_ch3 {g g' g'' : D → D → Option D} {d : Ev} : Y (ch3 g g' g'' a b c d) ρ KB X = Y (dat a) ρ (fun x ρ1 => Y (dat b) ρ1 (fun y ρ2 => ∃ z, g x y = some (.bl z) ∧ if z = true then Y (dat c) ρ2 (fun w ρ3 => ∃ z2, g' y w = some (.bl z2) ∧ if z2 = true then Y (dat d) ρ3 (fun q ρ4 => ∃ z3, g'' w q = some (.bl z3) ∧ KB z3 ρ4) X else KB false ρ3) X else KB false ρ2) X) X := by
  simp only [Y_eq]
  exact Y0_ch3
theorem Y_setD {d : D} : Y (setD i d) ρ KF X = ∃ s, ρ[i]? = some s ∧ canSet s = true ∧ KF .nx (ρ.set i (.dat d)) := by
  simp only [Y_eq]
  exact Y0_setD
theorem Y_setC {d : CC} : Y (PL.setC i d) ρ KF X = ∃ s, ρ[i]? = some s ∧ canSet s = true ∧ KF .nx (ρ.set i (.cel .own d)) := by
  simp only [Y_eq]
  exact Y0_setC
theorem Y_asg : Y (evAsg i m) ρ KF X = Y (dat m) ρ (fun d ρ1 => Y (setD i d) ρ1 KF X) X := by
  simp only [Y_eq]
  exact Y0_asg
theorem Y_asgC : Y (evAsgC i m) ρ KF X = Y m ρ (fun r ρ1 => match r with | .c c => Y (PL.setC i c) ρ1 KF X | .d _ => False) X := by
  simp only [Y_eq]
  exact Y0_asgC
theorem Y_ret : Y (evRet m) ρ KF X = Y m ρ (fun r ρ1 => KF (.rt r) ρ1) X := by
  simp only [Y_eq]
  exact Y0_ret
theorem Y_ex : Y (evEx m) ρ KF X = Y m ρ (fun _ ρ1 => KF .nx ρ1) X := by
  simp only [Y_eq]
  exact Y0_ex
theorem Y_nx : Y evNx ρ KF X = KF .nx ρ := by
  simp only [Y_eq]
  exact Y0_nx
theorem Y_lookE {m : Ev} {K : Rv → List Sl → Prop} : Y (lookE j m) ρ K X = match ρ[j]? with | some (.cel _ (.lst xs)) => Y m (lkS j xs 0 ρ) (fun r _ => Rv.lfreeO r = true ∧ K r ρ) (fun c pl _ => plfree pl = true ∧ X c pl ρ) | _ => False := by
  simp only [Y_eq]
  exact Y0_lookE
theorem Y_look {α : Type} {ok : α → Bool} {m : M α} {K : α → List Sl → Prop} : Y (look j ok m) ρ K X = match ρ[j]? with | some (.cel _ (.lst xs)) => Y m (lkS j xs 0 ρ) (fun r _ => ok r = true ∧ K r ρ) NX | _ => False := by
  simp only [Y_eq]
  exact Y0_look
variable {KS : List D → List Sl → Prop} {KA : List Ar → List Sl → Prop} {es : List DE} {as : List AE}
theorem Y_ds0 : Y (evDs []) ρ KS X = KS [] ρ := by
  simp only [Y_eq]
  exact Y0_ds0
theorem Y_dsE : Y (evDs (.e m :: es)) ρ KS X = Y (dat m) ρ (fun d ρ1 => Y (evDs es) ρ1 (fun ds ρ2 => KS (d :: ds) ρ2) X) X := by
  simp only [Y_eq]
  exact Y0_dsE
theorem Y_dsS : Y (evDs (.s m :: es)) ρ KS X = Y (dat m) ρ (fun d ρ1 => ∃ xs, d.items = some xs ∧ Y (evDs es) ρ1 (fun ds ρ2 => KS (xs ++ ds) ρ2) X) X := by
  simp only [Y_eq]
  exact Y0_dsS
theorem Y_B {g : List D → Option D} : Y (evB g es) ρ K X = Y (evDs es) ρ (fun ds ρ1 => ∃ z, g ds = some z ∧ K (.d z) ρ1) X := by
  simp only [Y_eq]
  exact Y0_B
theorem Y_Bc {g : List D → Option CC} : Y (evBc g es) ρ K X = Y (evDs es) ρ (fun ds ρ1 => ∃ z, g ds = some z ∧ K (.c z) ρ1) X := by
  simp only [Y_eq]
  exact Y0_Bc
theorem Y_tup : Y (evTup es) ρ K X = Y (evDs es) ρ (fun ds ρ1 => ds.length ≤ 16777216 ∧ K (.d (.tup ds)) ρ1) X := by
  simp only [Y_eq]
  exact Y0_tup
theorem Y_lst : Y (evLst es) ρ K X = Y (evDs es) ρ (fun ds ρ1 => ds.length ≤ 16777216 ∧ K (.c (.lst ds)) ρ1) X := by
  simp only [Y_eq]
  exact Y0_lst
theorem Y_bmL {f : List D → List D → Option (D × List D)} : Y (evBmL j f es) ρ K X = match ρ[j]? with
    | some (.cel _ (.lst _)) => Y (evDs es) ρ (fun ds ρ1 => match ρ1[j]? with | some (.cel k (.lst xs)) => ∃ p, f xs ds = some p ∧ K (.d p.1) (ρ1.set j (.cel k (.lst p.2))) | _ => False) X
    | _ => False := by
  simp only [Y_eq]
  exact Y0_bmL
theorem Y_LstRg {a b : Ev} : Y (evLstRg a b) ρ K X = Y (dat a) ρ (fun x ρ1 => Y (dat b) ρ1 (fun y ρ2 => match x, y with
    | .int i, .int j => (-(2 ^ 62) ≤ i ∧ i < 2 ^ 62 ∧ -(2 ^ 62) ≤ j ∧ j < 2 ^ 62 ∧ (j - i).toNat ≤ 2 ^ 24) ∧ K (.c (.lst (rngD i (j - i).toNat))) ρ2
    | _, _ => False) X) X := by
  simp only [Y_eq]
  exact Y0_LstRg
theorem Y_SrtSt {a : Ev} : Y (evSrtSt a) ρ K X = Y (dat a) ρ (fun x ρ1 => match x with
    | .lst xs => ∃ ns, D.ints xs = some ns ∧ ns.length ≤ 60 ∧ K (.c (.lst ((srtI ns).map .int))) ρ1
    | _ => False) X := by
  simp only [Y_eq]
  exact Y0_SrtSt
theorem Y_ixL : Y (evIxL j m) ρ K X = match ρ[j]? with
    | some (.cel _ (.lst _)) => Y (dat m) ρ (fun d ρ1 => match ρ1[j]? with | some (.cel _ (.lst xs)) => (match d with | .int i => ∃ z, atI xs i = some z ∧ K (.d z) ρ1 | _ => False) | _ => False) X
    | _ => False := by
  simp only [Y_eq]
  exact Y0_ixL
theorem Y_setI : Y (evSetI j a b) ρ KF X = Y (dat b) ρ (fun d ρ1 => match ρ1[j]? with
    | some (.cel _ (.lst _)) => Y (dat a) ρ1 (fun i ρ2 => match i with
      | .int i => (match ρ2[j]? with | some (.cel k (.lst xs)) => ∃ n, ixN xs.length i = some n ∧ KF .nx (ρ2.set j (.cel k (.lst (xs.set n d)))) | _ => False)
      | _ => False) X
    | _ => False) X := by
  simp only [Y_eq]
  exact Y0_setI
theorem Y_as0 : Y (evAs []) ρ KA X = KA [] ρ := by
  simp only [Y_eq]
  exact Y0_as0
theorem Y_asE : Y (evAs (.e m :: as)) ρ KA X = Y (dat m) ρ (fun d ρ1 => Y (evAs as) ρ1 (fun ar ρ2 => KA (.d d :: ar) ρ2) X) X := by
  simp only [Y_eq]
  exact Y0_asE
theorem Y_asC : Y (evAs (.c j :: as)) ρ KA X = match ρ[j]? with | some (.cel _ _) => Y (evAs as) ρ (fun ar ρ2 => KA (.c j :: ar) ρ2) X | _ => False := by
  simp only [Y_eq]
  exact Y0_asC
theorem Y_callG {G : Fn} {ar : List Ar} : Y (callG n G ar) ρ K X = ∃ ss, argSl ρ ar = some ss ∧ (ar.length = n ∧ (celsOf ar).Nodup) ∧ Y G ss (fun r ss' => K r (back ρ ar ss')) (fun c pl ss' => X c pl (back ρ ar ss')) := by
  simp only [Y_eq]
  exact Y0_callG
theorem Y_call {G : Fn} {ds : List D} : Y (evCall n G as ds) ρ K X = Y (evAs as) ρ (fun ar ρ1 => Y (callG n G (ar ++ ds.map .d)) ρ1 K X) X := by
  simp only [Y_eq]
  exact Y0_call
theorem Y_call0 {G : Fn} {ds : List D} : Y (evCall0 n G as ds) ρ K X = Y (evAs as) ρ (fun ar ρ1 => Y (callG n G (ar ++ ds.map .d)) ρ1 K NX) X := by
  simp only [Y_eq]
  exact Y0_call0
theorem Y_callN {G : Fn} {c : CC} {ar : List Ar} : Y (callN n G c ar) ρ K X = Y (callG n G (.c ρ.length :: ar)) (ρ ++ [.cel .own c]) (fun r ρ1 => K r (ρ1.take ρ.length)) (fun c pl ρ1 => X c pl (ρ1.take ρ.length)) := by
  simp only [Y_eq]
  exact Y0_callN
theorem Y_CallN {G : Fn} {ds : List D} : Y (evCallN n G m as ds) ρ K X = Y m ρ (fun r ρ1 => match r with | .c c => Y (evAs as) ρ1 (fun ar ρ2 => Y (callN n G c (ar ++ ds.map .d)) ρ2 K X) X | .d _ => False) X := by
  simp only [Y_eq]
  exact Y0_CallN
theorem Y_CallN0 {G : Fn} {ds : List D} : Y (evCallN0 n G m as ds) ρ K X = Y m ρ (fun r ρ1 => match r with | .c c => Y (evAs as) ρ1 (fun ar ρ2 => Y (callN n G c (ar ++ ds.map .d)) ρ2 K NX) X | .d _ => False) X := by
  simp only [Y_eq]
  exact Y0_CallN0
theorem Y_CallC {G : Fn} {c : Cl} : Y (evCallC n G c as) ρ K X = Y (evAs as) ρ (fun ar ρ1 => Y (callG n G (.d (.cl c) :: ar)) ρ1 K NX) X := by
  simp only [Y_eq]
  exact Y0_CallC
theorem Y_CallCS {G : Fn} {c : Cl} : Y (evCallCS n G c as) ρ K X = Y (evAs as) ρ (fun ar ρ1 => Y (callG n G (.d (.cl c) :: ar)) ρ1 K X) X := by
  simp only [Y_eq]
  exact Y0_CallCS
theorem Y_mkL {G : Fn} {c : Cl} : Y (evMkL i n G c as) ρ K X = match ρ[i]? with | some (.dat (.cl c')) => c' = c ∧ Y (evMk n G c as []) ρ K X | _ => False := by
  simp only [Y_eq]
  exact Y0_mkL
theorem Y_BestN {f : Int → Int → Int} {es : List DE} : Y (evBestN f es) ρ K X = Y (evDs es) ρ (fun ds ρ1 => ∃ z, gBestN f ds = some z ∧ K (.d z) ρ1) X := by
  simp only [Y_eq]
  exact Y0_BestN
theorem Y_own2 {G : Fn} {c : Cl} : Y (evOwn2 n G c a b) ρ K X = Y (dat a) ρ (fun d ρ1 => match d with
    | .obj c' xs => c' = c ∧ Y (dat b) ρ1 (fun d2 ρ2 => match d2 with | .obj c2 ys => c2 = c ∧ Y (callG n G [.d (.obj c xs), .d (.obj c ys)]) ρ2 K NX | _ => False) X
    | _ => False) X := by
  simp only [Y_eq]
  exact Y0_own2
theorem Y_own2S {G : Fn} {c : Cl} : Y (evOwn2S n G c a b) ρ K X = Y (dat a) ρ (fun d ρ1 => match d with
    | .obj c' xs => c' = c ∧ Y (dat b) ρ1 (fun d2 ρ2 => match d2 with | .obj c2 ys => c2 = c ∧ Y (callG n G [.d (.obj c xs), .d (.obj c ys)]) ρ2 K X | _ => False) X
    | _ => False) X := by
  simp only [Y_eq]
  exact Y0_own2S
theorem Y_st {k : StK} : Y (evSt k m) ρ K X = Y (dat m) ρ (fun d ρ1 => match d with | .tup xs => K (.d (.tup (k.ap xs))) ρ1 | _ => False) X := by
  simp only [Y_eq]
  exact Y0_st
theorem Y_ownIn {G : Fn} {c : Cl} : Y (evOwnIn n G c a b) ρ K X = Y (dat a) ρ (fun x ρ1 => Y (dat b) ρ1 (fun d ρ2 => match d with
    | .obj c' xs => c' = c ∧ Y (tst (noEr (callG n G [.d (.obj c xs), .d x]))) ρ2 (fun z ρ3 => K (.d (.bl z)) ρ3) X
    | _ => False) X) X := by
  simp only [Y_eq]
  exact Y0_ownIn
theorem Y_ownNin {G : Fn} {c : Cl} : Y (evOwnNin n G c a b) ρ K X = Y (dat a) ρ (fun x ρ1 => Y (dat b) ρ1 (fun d ρ2 => match d with
    | .obj c' xs => c' = c ∧ Y (tst (noEr (callG n G [.d (.obj c xs), .d x]))) ρ2 (fun z ρ3 => K (.d (.bl (!z))) ρ3) X
    | _ => False) X) X := by
  simp only [Y_eq]
  exact Y0_ownNin
theorem Y_callV {G : Fn} {ds : List D} : Y (callV n G ds) ρ K X = ((n ≤ ds.length ∧ ds.length ≤ 1000000) ∧ Y (callG (n + 1) G ((ds.take n).map .d ++ [.d (.tup (ds.drop n))])) ρ K X) := by
  simp only [Y_eq]
  exact Y0_callV
theorem Y_CallV {G : Fn} : Y (evCallV n G as) ρ K X = Y (evAs as) ρ (fun ar ρ1 => ∃ ds, datas ar = some ds ∧ Y (callV n G ds) ρ1 K X) X := by
  simp only [Y_eq]
  exact Y0_CallV
theorem Y_CallV0 {G : Fn} : Y (evCallV0 n G as) ρ K X = Y (evAs as) ρ (fun ar ρ1 => ∃ ds, datas ar = some ds ∧ Y (callV n G ds) ρ1 K NX) X := by
  simp only [Y_eq]
  exact Y0_CallV0
theorem Y_CallVS {G : Fn} : Y (evCallVS n G m) ρ K X = Y (dat m) ρ (fun d ρ1 => ∃ ds, d.items = some ds ∧ Y (callV n G ds) ρ1 K X) X := by
  simp only [Y_eq]
  exact Y0_CallVS
theorem Y_mkG {G : Fn} {c : Cl} {ar : List Ar} : Y (mkG n G c ar) ρ K X = Y (callG n G (.c ρ.length :: ar)) (ρ ++ [.cel .own (.obj c [])]) (fun r ρ1 => match r, ρ1[ρ.length]? with | .d .non, some (.cel .own c') => K (.c c') (ρ1.take ρ.length) | _, _ => False) (fun c pl ρ1 => X c pl (ρ1.take ρ.length)) := by
  simp only [Y_eq]
  exact Y0_mkG
theorem Y_mk {G : Fn} {c : Cl} {ds : List D} : Y (evMk n G c as ds) ρ K X = Y (evAs as) ρ (fun ar ρ1 => Y (mkG n G c (ar ++ ds.map .d)) ρ1 K X) X := by
  simp only [Y_eq]
  exact Y0_mk
theorem Y_mk0 {G : Fn} {c : Cl} {ds : List D} : Y (evMk0 n G c as ds) ρ K X = Y (evAs as) ρ (fun ar ρ1 => Y (mkG n G c (ar ++ ds.map .d)) ρ1 K NX) X := by
  simp only [Y_eq]
  exact Y0_mk0
theorem Y_meth {G : Fn} {c : Cl} : Y (evMeth n G c m as) ρ K X = Y (dat m) ρ (fun d ρ1 => match d with | .obj c' xs => c' = c ∧ Y (evAs as) ρ1 (fun ar ρ2 => Y (callG n G (.d (.obj c' xs) :: ar)) ρ2 K NX) X | _ => False) X := by
  simp only [Y_eq]
  exact Y0_meth
theorem Y_methS {G : Fn} {c : Cl} : Y (evMethS n G c m as) ρ K X = Y (dat m) ρ (fun d ρ1 => match d with | .obj c' xs => c' = c ∧ Y (evAs as) ρ1 (fun ar ρ2 => Y (callG n G (.d (.obj c' xs) :: ar)) ρ2 K X) X | _ => False) X := by
  simp only [Y_eq]
  exact Y0_methS
theorem Y_runB {k : Nat} {ss : List Sl} : Y (runB k s) ss K X = Y s (ss ++ List.replicate k .un) (fun f ρ => match f with | .nx => K (.d .non) (outs ss ρ) | .rt r => K r (outs ss ρ) | _ => False) (fun c pl ρ => X c pl (outs ss ρ)) := by
  simp only [Y_eq]
  exact Y0_runB
theorem Y_run0 {k : Nat} {ss : List Sl} : Y (run0 k s) ss K X = Y s (ss ++ List.replicate k .un) (fun f ρ => match f with | .nx => K (.d .non) (outs ss ρ) | .rt r => K r (outs ss ρ) | _ => False) NX := by
  simp only [Y_eq]
  exact Y0_run0
theorem Y_raise {c : Cl} : Y (evRaise c) ρ KF X = X c none ρ := by
  simp only [Y_eq]
  exact Y0_raise
theorem Y_raiseP {c : Cl} : Y (evRaiseP c m) ρ KF X = Y (dat m) ρ (fun d ρ1 => fmtD d = true ∧ X c (some d) ρ1) X := by
  simp only [Y_eq]
  exact Y0_raiseP
theorem Y_raise1 {c : Cl} : Y (evRaise1 c m) ρ KF X = Y m ρ (fun _ ρ1 => X c none ρ1) X := by
  simp only [Y_eq]
  exact Y0_raise1
theorem Y_for {it : M (List D)} {tg : Tg} : Y (evFor it tg s) ρ KF X = Y it ρ (fun xs ρ1 => Y (loop tg s xs) ρ1 KF X) X := by
  simp only [Y_eq]
  exact Y0_for
theorem Y_isi {tbl : List (TyN × Bool)} : Y (evIsi tbl m) ρ K X = Y (dat m) ρ (fun d ρ1 => ∃ b, (d.tyN.bind fun t => tbl.lookup t) = some b ∧ K (.d (.bl b)) ρ1) X := by
  simp only [Y_eq]
  exact Y0_isi
theorem Y_tTr : Y (tTr m) ρ KB X = Y (dat m) ρ (fun d ρ1 => ∃ b, d.truth = some b ∧ KB b ρ1) X := by
  simp only [Y_eq]
  exact Y0_tTr
theorem Y_fldS {c : Cl} {f : Str} : Y (evFldS c j f m) ρ KF X = Y (dat m) ρ (fun d ρ1 => match ρ1[j]? with | some (.cel k (.obj c' kvs)) => (c' = c ∧ kvs.length < 1000) ∧ KF .nx (ρ1.set j (.cel k (.obj c' (putD f d kvs)))) | _ => False) X := by
  simp only [Y_eq]
  exact Y0_fldS
theorem Y_cut {J : List Sl → Prop} (h : Y s ρ (fun f ρ1 => f = .nx ∧ J ρ1) X) (k : ∀ ρ1, J ρ1 → Y t ρ1 KF X) : Y (evSeq s t) ρ KF X := by
  simp only [Y_eq] at *
  exact Y0_cut h k
theorem Y_loop {tg : Tg} {I : List D → List Sl → Prop} : ∀ {xs : List D} {ρ : List Sl}, I xs ρ → (∀ x r ρ, I (x :: r) ρ → Y (asgT tg x) ρ (fun f ρ1 => f = .nx ∧ Y s ρ1 (fun f ρ2 => match f with | .nx => I r ρ2 | .ct => I r ρ2 | .bk => KF .nx ρ2 | .rt v => KF (.rt v) ρ2) X) NX) → (∀ ρ, I [] ρ → KF .nx ρ) → Y (loop tg s xs) ρ KF X:= fun {xs ρ} h st e => by simp only [Y_eq] at *; exact Y0_loop h st e
theorem Y_asgT {tg : Tg} : Y (evAsgT tg m) ρ KF X = Y (dat m) ρ (fun d ρ1 => Y (asgT tg d) ρ1 (fun f ρ2 => f = .nx ∧ KF .nx ρ2) NX) X := by
  simp only [Y_eq]
  exact Y0_asgT
theorem Y_asgTt {ts : List Tg} {xs : List D} : Y (asgT (.t ts) (.tup xs)) ρ KF X = Y (asgTs ts xs) ρ KF X := by
  simp only [Y_eq]
  exact Y0_asgTt
theorem Y_asgTs0 : Y (asgTs [] []) ρ KF X = KF .nx ρ := by
  simp only [Y_eq]
  exact Y0_asgTs0
theorem Y_asgTsC {t : Tg} {ts : List Tg} {x : D} {xs : List D} : Y (asgTs (t :: ts) (x :: xs)) ρ KF X = Y (evSeq (asgT t x) (asgTs ts xs)) ρ KF X := by
  simp only [Y_eq]
  exact Y0_asgTsC
theorem Y_part0 {KO : Option Int → List Sl → Prop} : Y (dPart none) ρ KO X = KO none ρ := by
  simp only [Y_eq]
  exact Y0_part0
theorem Y_partS {KO : Option Int → List Sl → Prop} : Y (dPart (some m)) ρ KO X = Y (dat m) ρ (fun d ρ1 => match d with | .int i => KO (some i) ρ1 | _ => False) X := by
  simp only [Y_eq]
  exact Y0_partS
theorem Y_sl {l u : Option Ev} : Y (evSl m l u) ρ K X = Y (dat m) ρ (fun d ρ1 => Y (dPart l) ρ1 (fun lo ρ2 => Y (dPart u) ρ2 (fun hi ρ3 => match d with
    | .lst xs => K (.c (.lst (cut xs lo hi))) ρ3
    | .sq xs => K (.c (.lst (cut xs lo hi))) ρ3
    | .tup xs => K (.d (.tup (cut xs lo hi))) ρ3
    | .str z => z.length ≤ 16777216 ∧ K (.d (.str (cutS z lo hi))) ρ3
    | _ => False) X) X) X := by
  simp only [Y_eq]
  exact Y0_sl
theorem Y_rev : Y (evRev m) ρ K X = Y (dat m) ρ (fun d ρ1 => ∃ xs, d.litems = some xs ∧ K (.c (.lst xs.reverse)) ρ1) X := by
  simp only [Y_eq]
  exact Y0_rev
theorem Y_vNoT : Y (vNoT m) ρ K X = Y (dat m) ρ (fun d ρ1 => ∃ b, d.truth = some b ∧ K (.d (.bl (!b))) ρ1) X := by
  simp only [Y_eq]
  exact Y0_vNoT
theorem Y_maxD {es : List DE} : Y (evMaxD es m) ρ K X = Y (evDs es) ρ (fun ds ρ1 => Y (dat m) ρ1 (fun d ρ2 => match d with | .int n => ∃ z, gMaxD n ds = some z ∧ K (.d z) ρ2 | _ => False) X) X := by
  simp only [Y_eq]
  exact Y0_maxD
theorem Y_itO {c : Cl} {KI : List D → List Sl → Prop} : Y (itO c i m) ρ KI X = Y (dat m) ρ (fun d ρ1 => match d with | .obj c' xs => c' = c ∧ (match xs[i]? with | some (.tup ys) => KI ys ρ1 | _ => False) | _ => False) X := by
  simp only [Y_eq]
  exact Y0_itO
theorem Y_lc {vs : List Nat} {it : M (List D)} {tg : Tg} {e : Ev} : Y (evLc vs it tg u e) ρ K X = Y it ρ (fun xs ρ1 => okOwn ρ1 vs = true ∧ Y (lcGo vs tg u e xs []) (wipeR ρ1 vs) (fun acc ρ2 => K (.c (.lst acc)) (restR ρ1 ρ2 vs)) NX) X := by
  simp only [Y_eq]
  exact Y0_lc
theorem Y_lcGo {vs : List Nat} {tg : Tg} {e : Ev} {f : D → Option D} {ρ0 : List Sl} {KS : List D → List Sl → Prop} {P : D → Prop} (st : ∀ (x : D) (acc : List D), P x → acc.length < 16777216 → Y (asgT tg x) ρ0 (fun g ρ1 => g = .nx ∧ Y (noEr u) ρ1 (fun b ρ2 => if b = true then Y (dat (noEr e)) ρ2 (fun d ρ3 => f x = some d ∧ wipeR ρ3 vs = ρ0) NX else f x = none ∧ wipeR ρ2 vs = ρ0) NX) NX) :
    ∀ (xs acc : List D), (∀ x ∈ xs, P x) → acc.length + xs.length ≤ 16777216 → KS (acc ++ xs.filterMap f) ρ0 → Y (lcGo vs tg u e xs acc) ρ0 KS X:= fun xs acc hp hl h => by simp only [Y_eq] at *; exact Y0_lcGo st xs acc hp hl h
theorem Y_lc2 {vs vs1 : List Nat} {it it1 : M (List D)} {tg tg1 : Tg} {v : M Bool} {e : Ev} : Y (evLc2 vs it tg u it1 vs1 tg1 v e) ρ K X = Y it ρ (fun xs ρ1 => okOwn ρ1 vs = true ∧ Y (lcGo2 vs tg u it1 vs1 tg1 v e xs []) (wipeR ρ1 vs) (fun acc ρ2 => K (.c (.lst acc)) (restR ρ1 ρ2 vs)) NX) X := by
  simp only [Y_eq]
  exact Y0_lc2
theorem Y_Sc2 {vs vs1 : List Nat} {it : M (List D)} {tg tg1 : Tg} {v : M Bool} {lo hi : Int} {e : Ev} : Y (evSc2 vs it tg u lo hi vs1 tg1 v e) ρ K X = Y (evLc2 vs it tg u (pur (rngD lo (hi - lo).toNat)) vs1 tg1 v e) ρ (fun r ρ1 => match r with
    | .c (.lst xs) => ∃ ns, D.ints xs = some ns ∧ ns.length < 4000 ∧ K (.c (.lst ((srtI ns).map .int))) ρ1
    | _ => False) X := by
  simp only [Y_eq]
  exact Y0_Sc2
theorem Y_Rng2 {fa fb : Ev} {k : Int → Int → M Fl} : Y (evRng2 i fa fb k) ρ KF X = Y (dat fa) ρ (fun x ρ1 => Y (dat fb) ρ1 (fun y ρ2 => match x, y with
    | .int lo, .int hi => (-(2 ^ 62) ≤ lo ∧ lo < 2 ^ 62 ∧ -(2 ^ 62) ≤ hi ∧ hi < 2 ^ 62) ∧ ∃ s, ρ2[i]? = some s ∧ canSet s = true ∧ Y (k lo hi) (ρ2.set i .un) KF X
    | _, _ => False) X) X := by
  simp only [Y_eq]
  exact Y0_Rng2
theorem Y_asgX : Y (evAsgX i m) ρ KF X = Y m ρ (fun r ρ1 => match r with | .c c => Y (PL.setC i c) ρ1 KF X | .d d => Y (PL.setD i d) ρ1 KF X) X := by
  simp only [Y_eq]
  exact Y0_asgX
theorem Y.okE {α : Type} {m : M α} {ρ ρ1 : List Sl} {a : α} {K : α → List Sl → Prop} {X : XC} (e : m ρ = some (.ok a, ρ1)) : Y m ρ K X = K a ρ1 := by
  simp only [Y_eq] at *
  exact Y0.okE e
theorem Y.erE {α : Type} {m : M α} {ρ ρ1 : List Sl} {c : Cl} {pl : Option D} {K : α → List Sl → Prop} {X : XC} (e : m ρ = some (.er c pl, ρ1)) : Y m ρ K X = X c pl ρ1 := by
  simp only [Y_eq] at *
  exact Y0.erE e
theorem Y.noE {α : Type} {m : M α} {ρ : List Sl} {K : α → List Sl → Prop} {X : XC} (e : m ρ = none) : Y m ρ K X = False := by
  simp only [Y_eq] at *
  exact Y0.noE e
theorem Y.cg {α : Type} {m m' : M α} {ρ ρ' : List Sl} {K : α → List Sl → Prop} {X : XC} (e : m ρ = m' ρ') : Y m ρ K X = Y m' ρ' K X := by
  simp only [Y_eq] at *
  exact Y0.cg e
theorem Y_suiteA {c : Cl} {pl : Option D} : Y (suiteA i c pl t) ρ KF X = (noExn ρ = true ∧ ∃ z, ρ[i]? = some z ∧ canSet z = true ∧ Y t (ρ.set i (.exn c pl)) (fun f ρ2 => noExn (ρ2.set i .un) = true ∧ KF f (ρ2.set i .un)) NX) := by
  simp only [Y_eq]
  exact Y0_suiteA
theorem Y_tryO {cat : List (Cl × Bool)} : Y (evTryO s cat t) ρ KF X = Y s ρ KF (fun c pl ρ1 => match cat.lookup c with | some true => noExn ρ1 = true ∧ Y t ρ1 (fun f ρ2 => noExn ρ2 = true ∧ KF f ρ2) NX | some false => X c pl ρ1 | none => False) := by
  simp only [Y_eq]
  exact Y0_tryO
theorem Y_tryA {cat : List (Cl × Bool)} : Y (evTryA i s cat t) ρ KF X = Y s ρ KF (fun c pl ρ1 => match cat.lookup c with
    | some true => noExn ρ1 = true ∧ ∃ z, ρ1[i]? = some z ∧ canSet z = true ∧ Y t (ρ1.set i (.exn c pl)) (fun f ρ2 => noExn (ρ2.set i .un) = true ∧ KF f (ρ2.set i .un)) NX
    | some false => X c pl ρ1
    | none => False) := by
  simp only [Y_eq]
  exact Y0_tryA
theorem Y_tryM {cs : List Clp} : Y (evTryM s cs) ρ KF X = Y s ρ KF (fun c pl ρ1 => Y (pick cs c pl) ρ1 KF X) := by
  simp only [Y_eq]
  exact Y0_tryM
theorem Y_pick0 {c : Cl} {pl : Option D} : Y (pick [] c pl) ρ KF X = X c pl ρ := by
  simp only [Y_eq]
  exact Y0_pick0
theorem Y_pickC {c : Cl} {pl : Option D} {cat : List (Cl × Bool)} {cs : List Clp} : Y (pick ((i, cat, t) :: cs) c pl) ρ KF X = match cat.lookup c with
    | some true => Y (suiteA i c pl t) ρ KF X
    | some false => Y (pick cs c pl) ρ KF X
    | none => False := by
  simp only [Y_eq]
  exact Y0_pickC
theorem Y_isE {tbl : List (TyN × Bool)} : Y (evIsE i tbl) ρ K X = match ρ[i]? with | some (.exn c _) => ∃ b, tbl.lookup (.o c) = some b ∧ K (.d (.bl b)) ρ | _ => False := by
  simp only [Y_eq]
  exact Y0_isE
theorem Y_js0 {acc : Str} {KZ : Str → List Sl → Prop} : Y (evJs [] acc) ρ KZ X = KZ acc ρ := by
  simp only [Y_eq]
  exact Y0_js0
theorem Y_jsC {ms : List Ev} {acc : Str} {KZ : Str → List Sl → Prop} : Y (evJs (m :: ms) acc) ρ KZ X = Y (dat m) ρ (fun d ρ1 => match d with | .str y => (acc ++ y).length ≤ 16777216 ∧ Y (evJs ms (acc ++ y)) ρ1 KZ X | _ => False) X := by
  simp only [Y_eq]
  exact Y0_jsC
theorem Y_jn {ms : List Ev} : Y (evJn ms) ρ K X = Y (evJs ms Str.empty) ρ (fun s ρ1 => K (.d (.str s)) ρ1) X := by
  simp only [Y_eq]
  exact Y0_jn
theorem Y_dget : Y (evDGet j m) ρ K X = match ρ[j]? with | some (.cel _ (.dK _)) => Y (dat m) ρ (fun k ρ1 => match ρ1[j]? with | some (.cel _ (.dK kvs)) => ∃ d, k.key.bind (dval kvs) = some d ∧ K (.d d) ρ1 | _ => False) X | _ => False := by
  simp only [Y_eq]
  exact Y0_dget
theorem Y_dget2 : Y (evDGet2 j m a) ρ K X = match ρ[j]? with | some (.cel _ (.dK _)) => Y (dat m) ρ (fun k ρ1 => Y (dat a) ρ1 (fun d ρ2 => match ρ2[j]? with | some (.cel _ (.dK kvs)) => ∃ z, k.key.map (fun k => (dval kvs k).getD d) = some z ∧ K (.d z) ρ2 | _ => False) X) X | _ => False := by
  simp only [Y_eq]
  exact Y0_dget2
theorem Y_dput : Y (evDPut j m a) ρ KF X = Y (dat a) ρ (fun d ρ1 => match ρ1[j]? with | some (.cel _ (.dK _)) => Y (dat m) ρ1 (fun k ρ2 => (match ρ2[j]? with | some (.cel c (.dK kvs)) => ∃ k', k.key = some k' ∧ kvs.length < 16777216 ∧ KF .nx (ρ2.set j (.cel c (.dK (dput kvs k' d)))) | _ => False)) X | _ => False) X := by
  simp only [Y_eq]
  exact Y0_dput
theorem Y_sortDR : Y (evSortDR j) ρ K X = match ρ[j]? with | some (.cel _ (.dK kvs)) => ∃ ks, keysI kvs = some ks ∧ K (.c (.lst ((down ks).map D.int))) ρ | _ => False := by
  simp only [Y_eq]
  exact Y0_sortDR
theorem Y_asgN {d : D} : Y (asgT (.n i) d) ρ KF X = Y (setD i d) ρ KF X := by
  simp only [Y_eq]
  exact Y0_asgN
theorem Y_itL {KI : List D → List Sl → Prop} : Y (itL m) ρ KI X = Y (dat m) ρ (fun d ρ1 => ∃ xs, d.litems = some xs ∧ KI xs ρ1) X := by
  simp only [Y_eq]
  exact Y0_itL
theorem Y_itT {KI : List D → List Sl → Prop} : Y (itT m) ρ KI X = Y (dat m) ρ (fun d ρ1 => ∃ xs, d.titems = some xs ∧ KI xs ρ1) X := by
  simp only [Y_eq]
  exact Y0_itT
theorem Y_itET {KI : List D → List Sl → Prop} : Y (itET m) ρ KI X = Y (dat m) ρ (fun d ρ1 => match d with | .tup xs => KI (enumD xs) ρ1 | _ => False) X := by
  simp only [Y_eq]
  exact Y0_itET
theorem Y_itEL {KI : List D → List Sl → Prop} : Y (itEL m) ρ KI X = Y (dat m) ρ (fun d ρ1 => match d with | .lst xs => KI (enumD xs) ρ1 | .sq xs => KI (enumD xs) ρ1 | _ => False) X := by
  simp only [Y_eq]
  exact Y0_itEL
theorem Y_Txm {g : Str → List D → Option D} {o : Ev} {es : List DE} : Y (evTxm g o es) ρ K X = Y (dat o) ρ (fun x ρ1 => match x with | .str a => Y (evDs es) ρ1 (fun ds ρ2 => ∃ z, g a ds = some z ∧ K (.d z) ρ2) X | _ => False) X := by
  simp only [Y_eq]
  exact Y0_Txm
theorem Y_cnt {o e : Ev} : Y (evCnt o e) ρ K X = Y (dat o) ρ (fun x ρ1 => match x with | .str a => Y (dat e) ρ1 (fun y ρ2 => match y with | .str b => K (.d (.int (Txt.count a b))) ρ2 | _ => False) X | _ => False) X := by
  simp only [Y_eq]
  exact Y0_cnt
theorem Y_itZ {KI : List D → List Sl → Prop} : Y (itZ a b) ρ KI X = Y (dat a) ρ (fun d ρ1 => Y (dat b) ρ1 (fun d2 ρ2 => match d, d2 with | .lst xs, .lst ys => KI (zipD xs ys) ρ2 | .tup xs, .tup ys => KI (zipD xs ys) ρ2 | _, _ => False) X) X := by
  simp only [Y_eq]
  exact Y0_itZ
theorem Y_itZS {KI : List D → List Sl → Prop} : Y (itZS a b) ρ KI X = Y (dat a) ρ (fun d ρ1 => Y (dat b) ρ1 (fun d2 ρ2 => match d, d2 with | .str s, .str t => KI (zipD (chars s) (chars t)) ρ2 | _, _ => False) X) X := by
  simp only [Y_eq]
  exact Y0_itZS
theorem Y_itR3 {KI : List D → List Sl → Prop} {c : Ev} : Y (itR3 a b c) ρ KI X = Y (dat a) ρ (fun d ρ1 => Y (dat b) ρ1 (fun d2 ρ2 => Y (dat c) ρ2 (fun d3 ρ3 => match d, d2, d3 with | .int i, .int j, .int k => stepOk i j k ∧ KI (rng3D i k (Builtin.Range.rangeSize i j k).toNat) ρ3 | _, _, _ => False) X) X) X := by
  simp only [Y_eq]
  exact Y0_itR3
theorem Y_itS {KI : List D → List Sl → Prop} : Y (itS m) ρ KI X = Y (dat m) ρ (fun d ρ1 => ∃ xs, d.sitems = some xs ∧ KI xs ρ1) X := by
  simp only [Y_eq]
  exact Y0_itS
theorem Y_join : Y (evJoin a b) ρ K X = Y (dat a) ρ (fun x ρ1 => match x with | .str z => Y (dat b) ρ1 (fun d ρ2 => ∃ r, dJoin z d = some r ∧ K (.d r) ρ2) X | _ => False) X := by
  simp only [Y_eq]
  exact Y0_join
theorem Y_xf {c : Cl} : Y (evXf i c) ρ K X = match ρ[i]? with | some (.exn c' (some d)) => c' = c ∧ K (.d d) ρ | _ => False := by
  simp only [Y_eq]
  exact Y0_xf
theorem Y_itR1 {KI : List D → List Sl → Prop} : Y (itR1 m) ρ KI X = Y (dat m) ρ (fun d ρ1 => match d with | .int j => (-(2 ^ 62) ≤ j ∧ j < 2 ^ 62) ∧ KI (rngD 0 j.toNat) ρ1 | _ => False) X := by
  simp only [Y_eq]
  exact Y0_itR1
theorem Y_itR2 {KI : List D → List Sl → Prop} : Y (itR2 a b) ρ KI X = Y (dat a) ρ (fun d ρ1 => Y (dat b) ρ1 (fun d2 ρ2 => match d, d2 with | .int i, .int j => (-(2 ^ 62) ≤ i ∧ i < 2 ^ 62 ∧ -(2 ^ 62) ≤ j ∧ j < 2 ^ 62) ∧ KI (rngD i (j - i).toNat) ρ2 | _, _ => False) X) X := by
  simp only [Y_eq]
  exact Y0_itR2
end
end PL
end
section
namespace PL
open PySem PySem.Spec PyProof.Rows L2
theorem pys_ints : ∀ xs : List Int, D.pys (xs.map D.int) = some (xs.map PyData.int)
  | [] => rfl
  | x :: xs => by
    have := pys_ints xs
    rw [List.map_cons, D.pys, this]
    rfl
theorem lay_ints : ∀ xs : List Int, PyData.canLayAll0 (xs.map PyData.int) = true
  | [] => rfl
  | x :: xs => by
    have := lay_ints xs
    rw [List.map_cons, PyData.canLayAll0, this]
    rfl
theorem dep_ints : ∀ xs : List Int, PyData.depthAll (xs.map PyData.int) = 0
  | [] => rfl
  | x :: xs => by
    have := dep_ints xs
    rw [List.map_cons, PyData.depthAll, this]
    rfl
theorem shp_ints (xs : List Int) : SeqAt.shaped (.list (xs.map PyData.int)) = true := by
  have h1 : PyData.canLay0 (.list (xs.map PyData.int)) = true := by rw [PyData.canLay0]; exact lay_ints xs
  have h2 : PyData.depth (.list (xs.map PyData.int)) = 1 := by rw [PyData.depth, dep_ints]
  unfold SeqAt.shaped
  rw [h1, h2]
  rfl
theorem eqv_ints : ∀ xs ys : List Int, PyData.eqvAll (xs.map PyData.int) (ys.map PyData.int) = decide (xs = ys)
  | [], [] => rfl
  | [], _ :: _ => rfl
  | _ :: _, [] => rfl
  | x :: xs, y :: ys => by
    have := eqv_ints xs ys
    rw [List.map_cons, List.map_cons, PyData.eqvAll, this]
    show (x == y && decide (xs = ys)) = _
    (by_cases h1 : x = y <;> by_cases h2 : xs = ys <;> simp [h1, h2])
theorem eqL_ints (xs ys : List Int) : D.eq? (.lst (xs.map D.int)) (.lst (ys.map D.int)) = some (decide (xs = ys)) := by
  have e1 : D.py (.lst (xs.map D.int)) = some (.list (xs.map PyData.int)) := by rw [D.py, pys_ints]; rfl
  have e2 : D.py (.lst (ys.map D.int)) = some (.list (ys.map PyData.int)) := by rw [D.py, pys_ints]; rfl
  have h1 := shp_ints xs
  have h2 := shp_ints ys
  have h3 : PyData.eqv (.list (xs.map PyData.int)) (.list (ys.map PyData.int)) = decide (xs = ys) := by rw [PyData.eqv]; exact eqv_ints xs ys
  show (match D.py (.lst (xs.map D.int)), D.py (.lst (ys.map D.int)) with
    | some x, some y => if SeqAt.shaped x && SeqAt.shaped y then some (PyData.eqv x y) else none
    | _, _ => none) = _
  rw [e1, e2]
  simp [h1, h2, h3]
theorem neL_ints (xs ys : List Int) : dNe (.lst (xs.map D.int)) (.lst (ys.map D.int)) = some (.bl (!decide (xs = ys))) := by
  unfold dNe
  rw [eqL_ints]
  rfl
theorem in_ints (x : Int) (xs : List Int) : dIn (.int x) (.lst (xs.map D.int)) = some (.bl (decide (x ∈ xs))) := by
  unfold dIn dInB
  simp only [D.items, Option.bind_some, D.ints_map, Option.map_some]
  congr 2
  by_cases h : x ∈ xs <;> simp [h]
theorem qe_ii {i j : Int} : D.eq? (.int i) (.int j) = some (decide (i = j)) := id rfl
theorem qe_bb {i j : Bool} : D.eq? (.bl i) (.bl j) = some (i == j) := id rfl
theorem qe_ss {i j : Str} : D.eq? (.str i) (.str j) = some (decide (i = j)) := id rfl
theorem qe_nn : D.eq? .non .non = some true := id rfl
theorem qe_ni {i : Int} : D.eq? .non (.int i) = some false := id rfl
theorem qe_in {i : Int} : D.eq? (.int i) .non = some false := id rfl
theorem qe_nb {i : Bool} : D.eq? .non (.bl i) = some false := id rfl
theorem qe_bn {i : Bool} : D.eq? (.bl i) .non = some false := id rfl
theorem qe_ns {i : Str} : D.eq? .non (.str i) = some false := id rfl
theorem qe_sn {i : Str} : D.eq? (.str i) .non = some false := id rfl
theorem qe_is {i : Int} {s : Str} : D.eq? (.int i) (.str s) = some false := id rfl
theorem qe_si {i : Int} {s : Str} : D.eq? (.str s) (.int i) = some false := id rfl
theorem qe_bs {i : Bool} {s : Str} : D.eq? (.bl i) (.str s) = some false := id rfl
theorem qe_sb {i : Bool} {s : Str} : D.eq? (.str s) (.bl i) = some false := id rfl
theorem at_lt {α : Type} {l : List α} (i : Nat) (h : i < l.length) : atI l (i : Int) = l[i]? := by
  unfold atI ixN
  rw [if_pos (Int.natCast_nonneg i), if_pos (by omega)]
  simp
theorem at_0 {α : Type} {a : α} {l : List α} : atI (a :: l) 0 = some a := at_lt 0 (by simp)
theorem at_1 {α : Type} {a b : α} {l : List α} : atI (a :: b :: l) 1 = some b := at_lt 1 (by simp)
theorem at_2 {α : Type} {a b c : α} {l : List α} : atI (a :: b :: c :: l) 2 = some c := at_lt 2 (by simp)
theorem at_3 {α : Type} {a b c d : α} {l : List α} : atI (a :: b :: c :: d :: l) 3 = some d := at_lt 3 (by simp)
theorem at_4 {α : Type} {a b c d e : α} {l : List α} : atI (a :: b :: c :: d :: e :: l) 4 = some e := at_lt 4 (by simp)
theorem at_5 {α : Type} {a b c d e f : α} {l : List α} : atI (a :: b :: c :: d :: e :: f :: l) 5 = some f := at_lt 5 (by simp)
theorem at_6 {α : Type} {a b c d e f g : α} {l : List α} : atI (a :: b :: c :: d :: e :: f :: g :: l) 6 = some g := at_lt 6 (by simp)
theorem at_7 {α : Type} {a b c d e f g h : α} {l : List α} : atI (a :: b :: c :: d :: e :: f :: g :: h :: l) 7 = some h := at_lt 7 (by simp)
theorem ix_30 : ixN 3 0 = some 0 := by decide
theorem ix_31 : ixN 3 1 = some 1 := by decide
theorem ix_32 : ixN 3 2 = some 2 := by decide
def lk1 (j i : Nat) (xs : List D) (s : Sl) : Sl := match s with | .cel _ _ => if i = j then .dat (.lst xs) else .un | s => s
theorem lkS_c {j i : Nat} {xs : List D} {s : Sl} {r : List Sl} : lkS j xs i (s :: r) = lk1 j i xs s :: lkS j xs (i + 1) r := by cases s <;> rfl
theorem lkS_n {j i : Nat} {xs : List D} : lkS j xs i [] = [] := id rfl
theorem lk1_u {j i : Nat} {xs : List D} : lk1 j i xs .un = .un := id rfl
theorem lk1_d {j i : Nat} {xs : List D} {d : D} : lk1 j i xs (.dat d) = .dat d := id rfl
theorem lk1_x {j i : Nat} {xs : List D} {c : Cl} {d : Option D} : lk1 j i xs (.exn c d) = .exn c d := id rfl
theorem lk1_s {j : Nat} {xs : List D} {k : CK} {c : CC} : lk1 j j xs (.cel k c) = .dat (.lst xs) := if_pos rfl
theorem cs_u : canSet .un = true := id rfl
theorem cs_d {d : D} : canSet (.dat d) = true := id rfl
theorem cs_o {c : CC} : canSet (.cel .own c) = true := id rfl
theorem cs_x {c : Cl} {d : Option D} : canSet (.exn c d) = true := id rfl
theorem lk_b {n m : String} {x : Bool} {r : List (TyN × Bool)} : List.lookup (TyN.b n) ((TyN.b m, x) :: r) = if n = m then some x else List.lookup (TyN.b n) r := by
  rw [List.lookup_cons]
  by_cases e : n = m
  · subst e; simp
  · have : (TyN.b n == TyN.b m) = false := beq_eq_false_iff_ne.mpr fun z => e (by cases z; rfl)
    rw [this, if_neg e]
theorem lk_bo {n : String} {c : Cl} {x : Bool} {r : List (TyN × Bool)} : List.lookup (TyN.b n) ((TyN.o c, x) :: r) = List.lookup (TyN.b n) r := by
  rw [List.lookup_cons]
  have : (TyN.b n == TyN.o c) = false := beq_eq_false_iff_ne.mpr fun z => by cases z
  rw [this]
theorem lk_ob {n : String} {c : Cl} {x : Bool} {r : List (TyN × Bool)} : List.lookup (TyN.o c) ((TyN.b n, x) :: r) = List.lookup (TyN.o c) r := by
  rw [List.lookup_cons]
  have : (TyN.o c == TyN.b n) = false := beq_eq_false_iff_ne.mpr fun z => by cases z
  rw [this]
theorem lk_o {c d : Cl} {x : Bool} {r : List (TyN × Bool)} : List.lookup (TyN.o c) ((TyN.o d, x) :: r) = if c = d then some x else List.lookup (TyN.o c) r := by
  rw [List.lookup_cons]
  by_cases e : c = d
  · subst e; simp
  · have : (TyN.o c == TyN.o d) = false := beq_eq_false_iff_ne.mpr fun z => e (by cases z; rfl)
    rw [this, if_neg e]
theorem lk_c {c d : Cl} {x : Bool} {r : List (Cl × Bool)} : List.lookup c ((d, x) :: r) = if c = d then some x else List.lookup c r := by
  rw [List.lookup_cons]
  by_cases e : c = d
  · subst e; simp
  · have : (c == d) = false := beq_eq_false_iff_ne.mpr e
    rw [this, if_neg e]
theorem ty_n : D.tyN .non = some (.b "NoneType") := id rfl
theorem ty_b {b : Bool} : D.tyN (.bl b) = some (.b "bool") := id rfl
theorem ty_i {i : Int} : D.tyN (.int i) = some (.b "int") := id rfl
theorem ty_s {s : Str} : D.tyN (.str s) = some (.b "str") := id rfl
theorem ty_t {xs : List D} : D.tyN (.tup xs) = some (.b "tuple") := id rfl
theorem ty_l {xs : List D} : D.tyN (.lst xs) = some (.b "list") := id rfl
theorem ty_q {xs : List D} : D.tyN (.sq xs) = some (.b "list") := id rfl
theorem ty_o {c : Cl} {xs : List D} : D.tyN (.obj c xs) = some (.o c) := id rfl
theorem ex_sb {p : Bool} {Q : Bool → Prop} : (∃ z, some (D.bl p) = some (D.bl z) ∧ Q z) = Q p := propext ⟨fun ⟨_, e, q⟩ => by cases e; exact q, fun q => ⟨_, rfl, q⟩⟩
theorem fz_l {xs : List D} : CC.froz (.lst xs) = some (.lst xs) := id rfl
theorem fz_k {kvs : List (Key × D)} : CC.froz (.dK kvs) = some (.dK (kvs.map (·.1)) (kvs.map (·.2))) := id rfl
theorem fz_t {kvs : List (List Key × D)} : CC.froz (.dT kvs) = some (.dT (kvs.map (·.1)) (kvs.map (·.2))) := id rfl
theorem fz_lac {a b : D} : CC.froz (.obj .Lacquer [("a", a), ("b", b)]) = some (.obj .Lacquer [a, b]) := id rfl
theorem fz_cli {a : D} : CC.froz (.obj .Climate [("kinds", a)]) = some (.obj .Climate [a]) := id rfl
theorem fz_wea {a : D} : CC.froz (.obj .Weather [("lengths", a)]) = some (.obj .Weather [a]) := id rfl
theorem fz_rat {a b : D} : CC.froz (.obj .Ratio [("top", a), ("bottom", b)]) = some (.obj .Ratio [a, b]) := id rfl
theorem fz_ste {a : D} : CC.froz (.obj .StepSet [("steps", a)]) = some (.obj .StepSet [a]) := id rfl
theorem fz_web {a b : D} : CC.froz (.obj .StepWeb [("steps", a), ("climate", b)]) = some (.obj .StepWeb [a, b]) := id rfl
theorem fz_sky {a : D} : CC.froz (.obj .SkyWeb [("climate", a)]) = some (.obj .SkyWeb [a]) := id rfl
theorem fz_hab {a b : D} : CC.froz (.obj .Habit [("sight", a), ("rows", b)]) = some (.obj .Habit [a, b]) := id rfl
theorem fz_dia {a : D} : CC.froz (.obj .Diary [("marks", a)]) = some (.obj .Diary [a]) := id rfl
theorem pu_0 {f : Str} {d : D} : putD f d [] = [(f, d)] := id rfl
theorem pu_lac {a b : D} : putD "b" b [("a", a)] = ([("a", a), ("b", b)] : List (Str × D)) := id rfl
theorem pu_rat {a b : D} : putD "bottom" b [("top", a)] = ([("top", a), ("bottom", b)] : List (Str × D)) := id rfl
theorem pu_web {a b : D} : putD "climate" b [("steps", a)] = ([("steps", a), ("climate", b)] : List (Str × D)) := id rfl
theorem pu_hab {a b : D} : putD "rows" b [("sight", a)] = ([("sight", a), ("rows", b)] : List (Str × D)) := id rfl
/-- the signs of hours: true is damp -/
def sg (bs : List Bool) : Str := ⟨(bs.map fun b => if b = true then 35 else 46).toArray⟩
theorem sg_len (bs : List Bool) : (sg bs).length = bs.length := by
  show (List.toArray _).size = _
  (rw [List.size_toArray, List.length_map])
theorem sg_app (a b : List Bool) : sg a ++ sg b = sg (a ++ b) := by
  show (⟨_ ++ _⟩ : Str) = ⟨_⟩
  simp [sg]
theorem sg_dot : ((("." : String) : Str)) = sg [false] := by decide +kernel
theorem sg_hash : ((("#" : String) : Str)) = sg [true] := by decide +kernel
theorem sg_nil : ((("" : String) : Str)) = sg [] := by decide +kernel
theorem sg_inj {a b : List Bool} (h : sg a = sg b) : a = b := by
  have h : (a.map fun b => if b = true then 35 else 46) = (b.map fun b => if b = true then 35 else 46) := by
    have := congrArg (fun s : Str => s.cps.toList) h
    simpa [sg] using this
  rename_i h0
  clear h0
  induction a generalizing b with
  | nil => cases b <;> simp_all
  | cons x a ih =>
    cases b with
    | nil => simp at h
    | cons y b =>
      rw [List.map_cons, List.map_cons, List.cons.injEq] at h
      rw [ih h.2]
      congr 1
      have := h.1
      revert this
      cases x <;> cases y <;> simp
theorem sg_eq {a b : List Bool} : (sg a = sg b) = (a = b) := propext ⟨sg_inj, fun e => by rw [e]⟩
theorem sg_cps (bs : List Bool) : (sg bs).cps.toList = bs.map fun b => if b = true then 35 else 46 := by simp [sg]
theorem sg_ix {bs : List Bool} {i : Nat} (h : i < bs.length) (hl : bs.length ≤ 16777216) : dIx (.str (sg bs)) (.int (i : Int)) = some (.str (sg [bs[i]])) := by
  show (if (sg bs).length ≤ 16777216 then (atI (sg bs).cps.toList (i : Int)).map fun c => D.str ⟨#[c]⟩ else none) = _
  rw [if_pos (by rw [sg_len]; exact hl), sg_cps, at_lt i (by rw [List.length_map]; exact h)]
  simp [h, sg]
theorem sg_ixI {bs : List Bool} {i : Int} (h0 : 0 ≤ i) (h : i < bs.length) (hl : bs.length ≤ 16777216) : dIx (.str (sg bs)) (.int i) = some (.str (sg [bs[i.toNat]'(by omega)])) := by
  (obtain ⟨n, rfl⟩ := Int.eq_ofNat_of_zero_le h0)
  exact sg_ix (by omega) hl
theorem sg_cut (bs : List Bool) (lo hi : Option Int) : cutS (sg bs) lo hi = sg (cut bs lo hi) := by
  unfold cutS cut
  rw [sg_len, sg_cps]
  unfold sg
  (rw [List.map_take, List.map_drop])
theorem sg_items (bs : List Bool) : (D.str (sg bs)).sitems = some (bs.map fun b => .str (sg [b])) := by
  show some (chars (sg bs)) = _
  unfold chars
  rw [sg_cps]
  simp [sg]
theorem sg_cnt (c : Bool) : ∀ bs : List Bool, cnt (if c = true then 35 else 46) (bs.map fun b => if b = true then 35 else 46) = (bs.count c : Int)
  | [] => rfl
  | b :: bs => by
    rw [List.map_cons, cnt_cons, sg_cnt c bs, List.count_cons]
    cases b <;> cases c <;> simp <;> omega
theorem sg_count (bs : List Bool) (c : Bool) : Txt.count (sg bs) (sg [c]) = (bs.count c : Int) := by
  have e : sg [c] = ⟨#[if c = true then 35 else 46]⟩ := rfl
  rw [e, count_cnt, sg_cps, sg_cnt]
theorem sg_rep (bs : List Bool) (n : Nat) : repS (sg bs) n = sg (List.replicate n bs).flatten := by
  have go : ∀ (n : Nat) (a : List Bool), (List.replicate n (sg bs).cps).foldl (· ++ ·) (sg a).cps = (sg (a ++ (List.replicate n bs).flatten)).cps := by
    intro n
    induction n with
    | zero => intro a; simp
    | succ n ih =>
      intro a
      rw [List.replicate_succ, List.foldl_cons]
      have e : (sg a).cps ++ (sg bs).cps = (sg (a ++ bs)).cps := congrArg Str.cps (sg_app a bs)
      rw [e, ih, List.replicate_succ, List.flatten_cons, List.append_assoc]
  have := go n []
  show (⟨_⟩ : Str) = _
  have e : (sg []).cps = #[] := rfl
  rw [← e, this, List.nil_append]
theorem sg_join (xs : List (List Bool)) : Txt.join (sg []) (xs.map sg) = sg xs.flatten := by
  show Builtin.Str.glued _ _ = _
  rw [PySem.StrLaws.glued_eq_join]
  induction xs with
  | nil => rfl
  | cons x xs ih =>
    cases xs with
    | nil => simp [Str.join]
    | cons y ys =>
      rw [List.map_cons, List.map_cons, Str.join, ← List.map_cons, ih]
      rw [sg_app, sg_app]
      · simp
      · intro h; cases h
theorem sgx {bs : List Bool} {i : Int} (h0 : 0 ≤ i) (h : i < bs.length) (hl : bs.length ≤ 16777216) : (if bs.length ≤ 16777216 then Option.map (fun c => D.str { cps := #[c] }) (atI (sg bs).cps.toList i) else none) = some (.str (sg [bs[i.toNat]'(by omega)])) := by
  rw [← sg_ixI h0 h hl]
  show _ = (if (sg bs).length ≤ 16777216 then _ else none)
  rw [sg_len]
theorem sg1 {b c : Bool} : (sg [b] = sg [c]) = (b = c) := by rw [sg_eq]; simp
end PL
end
section
namespace GSF
open PySem PySem.Spec PyProof.Rows GenW L2
/-! the statements of a generator def that list() drains: if, for -/
section
variable {prog : Program} {w : World} {A : Around} {env : Env} {fs : List Frame} {s s₀ : Shared} {R : GenEnd} {Y : Protocol} {n : Nat}
def tailF (tg : Expr) (u : Value) (body : List Stmt) (env : Env) : Flow → Sem PySem.Fin := fun f => match f with
  | .next | .cont => .pure (.again (.forLoop tg u body [] env))
  | .brk => .pure (.done .next)
  | .ret v => .pure (.done (.ret v))
def tailX (env : Env) : Value → Sem PySem.Fin := fun e => (do noteFrame e env; theTreesLotGoes e : Sem Unit).wrap (fun _ => .raise e) .raise id id
/-- a loop's turn -/
theorem seg_turn {tg : Expr} {u : Value} {body : List Stmt}
    (h : wpAny (model prog w) (A.over (.forLoop tg u body [] env) fs) (pyNext u) (fun r z => match r with
      | none => Seg (model prog w) A R Y n s₀ (.block [] env) (leafOf (.ok .next)) fs z
      | some v => wpAny (model prog w) (A.over (.forLoop tg u body [] env) fs) (letOwnedTupleGo tg u v) (fun _ z1 => wpAny (model prog w) (A.over (.forLoop tg u body [] env) fs) (assign tg env v) (fun _ z2 =>
          Seg (model prog w) A R Y n s₀ (.forLoop tg u body [] env) ((execs body env).wrap (tailF tg u body env) (tailX env) id id) fs z2) (fun x z2 => Seg (model prog w) A R Y n s₀ (.forLoop tg u body [] env) (tailX env x) fs z2) z1) (fun _ _ => False) z)
      (fun _ _ => False) s) :
    Seg (model prog w) A R Y n s₀ (.forLoop tg u body [] env) ((model prog w).den (.forLoop tg u body [] env)) fs s := by
  show Seg _ A R Y n s₀ _ ((forTurn tg u body [] env).onRaise (fun x => do noteFrame x env; theTreesLotGoes x)) fs s
  rw [Sem.onRaise_eq_wrap]
  unfold forTurn
  (refine seg_bind_wrap (wpAny_standAt ?_))
  refine seg_bind_wrap (wpAny_onRaise (wpAny_mono h (fun r z q => ?_) fun _ _ q => q.elim))
  cases r with
  | none => exact seg_again rfl q
  | some v =>
    refine seg_bind_wrap (wpAny_mono q (fun _ z1 q1 => ?_) fun _ _ q => q.elim)
    refine seg_bind_wrap (wpAny_mono q1 (fun _ z2 q2 => ?_) fun x z2 q2 => ?_)
    · rw [Sem.bind_eq_wrap', Sem.wrap_wrap]
      rw [Sem.wrap_congr (execs body env) _ _ (K' := tailF tg u body env) (H' := tailX env) (fun f => by cases f <;> rfl)
        (fun e => by first | exact Sem.bind_eq_wrap _ _ | (show (do noteFrame e env; theTreesLotGoes e : Sem Unit).bind (fun _ => .raise e) = _; rw [Sem.bind_eq_wrap]; rfl))]
      exact q2
    · have e : Sem.bind (do noteFrame x env; theTreesLotGoes x : Sem Unit) (fun _ => (Sem.raise x : Sem PySem.Fin)) = tailX env x := Sem.bind_eq_wrap _ _
      show Seg _ _ _ _ _ _ _ (Sem.bind (do noteFrame x env; theTreesLotGoes x : Sem Unit) (fun _ => (Sem.raise x : Sem PySem.Fin))) _ _
      rw [e]
      exact q2
end
section
variable {M : Model} {A : Around} {R : GenEnd} {Y : Protocol} {n : Nat} {s₀ : Shared} {c : Code} {fs : List Frame} {s : Shared} {env : Env} {K : Flow → Sem PySem.Fin} {J : Value → Sem PySem.Fin} {gd : Bool → Bool} {lv : List Value → List Value}
def outF (r : Result) : Sem Flow := match r with
  | .ok f => .pure f
  | .error e => .raise e
/-- where a loop's code stands over the frame that began it -/
def retF (env : Env) (K : Flow → Sem PySem.Fin) (J : Value → Sem PySem.Fin) (gd : Bool → Bool) (lv : List Value → List Value) (c : Code) (p : Pos) : Frame :=
  .ret (fun r => ((outF r).onRaise (cameBack env)).wrap K J gd lv) none (gd false) (lv []) c p []
/-- a loop's beginning -/
theorem seg_start {tg it : Expr} {body : List Stmt} {pos : Pos} (hs : ∀ x, foldedSetIterable it env x = pure x)
    (h : wpAny M (A.over c fs) (eval it env) (fun v z => wpAny M (A.over c fs) (pyIter v) (fun u z' => ∀ p,
        Seg M A R Y n s₀ (.forLoop tg u body [] env) (M.den (.forLoop tg u body [] env))
          (retF env K J gd lv c p :: fs) z') (fun x z' => Seg M A R Y n s₀ c (J x) fs z') z) (fun x z => Seg M A R Y n s₀ c (J x) fs z) s) :
    Seg M A R Y n s₀ c ((exec (.For tg it body [] pos) env).wrap K J gd lv) fs s := by
  rw [exec_For]
  (refine seg_bind_wrap (wpAny_standAt ?_))
  refine seg_bind_wrap (wpAny_mono h (fun v z q => ?_) fun _ _ q => q)
  refine seg_bind_wrap (wpAny_of_eq (hs v) ?_)
  (refine seg_bind_wrap (wpAny_standAt ?_))
  refine seg_bind_wrap (wpAny_holding (wpAny_mono q (fun u z' q' => ?_) fun _ _ q => q))
  exact seg_call fun p => q' p
end
section
variable {X : Cx}
/-! if -/
def tGIf (c : TT) (ta tb : TGn) : TGn := fun D ys σ H => c σ H fun b H1 => if b = true then ta D ys σ H1 else tb D ys σ H1
theorem gs_if {c : Expr} {a b : List Stmt} {tc : TT} {ta tb : TGn} {pos : Pos} (hc : PT X c tc) (ha : GSs X a ta) (hb : GSs X b tb) : GS X (.If c a b pos) (tGIf tc ta tb) := by
  refine ⟨fun A S ip R n ys s₀ cd fs K J gd lv s σ H D g hn k hI ht => ?_⟩
  obtain ⟨acc, cc, r, I⟩ := hI
  rw [exec_If]
  (refine seg_bind_wrap (wpAny_standAt ?_))
  refine seg_bind_wrap ?_
  rw [g.over]
  refine wpAny_mono (hc.run _ s σ H _ I ht) (fun d s1 ⟨H1, I1, q1⟩ => ?_) fun x s' hx => k.exc n s₀ x s' hx
  cases d with
  | true => exact ha.run A S ip R n ys s₀ cd fs K J gd lv s1 σ H1 D g hn k ⟨acc, cc, r, I1⟩ q1
  | false => exact hb.run A S ip R n ys s₀ cd fs K J gd lv s1 σ H1 D g hn k ⟨acc, cc, r, I1⟩ q1
/-! for -/
def tGFor (wi : TI) (g : TG) (tb : TGn) : TGn := fun D ys σ H => wi σ H fun J H1 => ∃ W : Nat → Nat → List V → L2.St → Hp → Prop, (∃ m, W 0 m ys σ H1) ∧ ∀ i m ys σ H, W i m ys σ H →
  (J.stop i H ∧ D.nx ys σ H) ∨ (J.go i H ∧ ∃ N : List V → L2.St → Hp → Prop, (∀ ys' σ' H', N ys' σ' H' → ∃ m', m' < m ∧ W (i + 1) m' ys' σ' H') ∧ ∀ x H', J.yld i H x H' → g x σ H' fun σ2 H2 => tb { D with nx := N, ct := N, bk := D.nx } ys σ2 H2)
theorem gs_for {tg iter : Expr} {body : List Stmt} {wi : TI} {tgt : TG} {tb : TGn} {pos : Pos} (hp : PassesOwn (model X.prog X.w) X.A X.env X.xe) (hc : X.calm = true) (hi : PI X tg iter wi) (hg : PG X tg tgt) (hb : GSs X body tb)
    (hs : ∀ x, foldedSetIterable iter X.env x = pure x := by intro _; rfl) : GS X (.For tg iter body [] pos) (tGFor wi tgt tb) := by
  (refine ⟨fun A S ip R n ys s₀ c fs K J gd lv s σ H D g hn k hI ht => ?_⟩)
  obtain ⟨acc, cc, r, I⟩ := hI
  have eS : H S = none ∧ s.heap.get? S = some (lstObj acc cc) := let z := I.pin (S, lstObj acc cc) (List.mem_append_right _ List.mem_cons_self); ⟨z.2.1, z.1⟩
  refine seg_start hs ?_
  rw [g.over]
  refine wpAny_mono (hi.run _ s σ H _ I ht) (fun v s1 h1 => ?_) fun x s' hx => k.exc n s₀ x s' hx
  refine wpAny_mono h1 (fun itv s2 h2 p => ?_) fun x s' hx => k.exc n s₀ x s' hx
  obtain ⟨it, fp, tn, Jt, H2, e, I2, T, st2, f2, W, ⟨m0, w0⟩, turn⟩ := h2
  subst e
  have gl : GC X S ip A (.forLoop tg (.ref it) body [] X.env) (retF X.env K J gd lv c p :: fs) id := gc_loop (c' := .forLoop tg (.ref it) body [] X.env) g rfl rfl
  have nS : ∀ b ∈ fp, S ≠ b := fun b hb => (f2 b hb).2.2.2.2.2 (S, lstObj acc cc) (List.mem_append_right _ List.mem_cons_self)
  have stat : ∀ {H' : Hp} {acc' : Array Value} {cc' : Nat}, (∀ b ∈ fp, H' b = none) → ∀ b ∈ fp, FpOk X ((S, lstObj acc' cc') :: ip) H' b := fun {H' acc' cc'} hn b hb => by
    obtain ⟨_, h1, h2, h3, h4, h5⟩ := f2 b hb
    refine ⟨hn b hb, h1, h2, h3, h4, fun q hq => ?_⟩
    rcases List.mem_append.mp hq with z | z
    · exact h5 q (List.mem_append_left _ z)
    · (rcases List.mem_cons.mp z with z | z)
      · rw [z]; exact nS b hb
      · exact h5 q (List.mem_append_right _ (List.mem_cons_of_mem _ z))
  have loop : ∀ (m i n : Nat) (ys : List V) (s₀ s : Shared) (σ : L2.St) (H : Hp), n + ys.length = sizeLine → W i m ys σ H → GI X S ip ys σ H s → tn i s.heap → (∀ b ∈ fp, H b = none) →
      Seg (model X.prog X.w) A R (GY X S) n s₀ (.forLoop tg (.ref it) body [] X.env) ((model X.prog X.w).den (.forLoop tg (.ref it) body [] X.env))
        (retF X.env K J gd lv c p :: fs) s := by
    intro mm
    induction mm using Nat.strongRecOn with
    | ind m ih =>
      intro i n ys s₀ s σ H hn w hI st fr
      have ee : ∀ (n : Nat) (s₀ : Shared) (x : Value) (s' : Shared), X.xe x s' → Seg (model X.prog X.w) A R (GY X S) n s₀ (.forLoop tg (.ref it) body [] X.env) (tailX X.env x)
          (retF X.env K J gd lv c p :: fs) s' := fun n s₀ x s' hx => by
        unfold tailX
        refine seg_wrap ?_
        rw [gl.over]
        (refine wpAny_bind (wpAny_mono (hp x s' hx) (fun _ s'' hcb => wpAny_theTreesLotGoes ?_) fun y s'' hcb => ?_))
        · (exact seg_leaf (.error x) (seg_cameBack g k hcb))
        · (exact seg_leaf (.error y) (seg_cameBack g k hcb))
      obtain ⟨acc, cc, r, I⟩ := hI
      refine seg_turn ?_
      rw [gl.over]
      rcases turn i m ys σ H w with ⟨stop, qn⟩ | ⟨go, N, hN, step⟩
      · refine wpAny_mono (T.done X rfl rfl rfl hc i _ s σ H (fun _ _ => False) I (stat fr) st stop) (fun r1 s1 ⟨hr, I1⟩ => ?_) fun _ _ q => q
        subst hr
        exact seg_leaf (.ok .next) (k.ok n ys s₀ s1 .next hn ⟨σ, H, ⟨acc, cc, r, I1⟩, qn⟩)
      · refine wpAny_mono (T.item X rfl rfl rfl hc i _ s σ H (fun _ _ => False) I (stat fr) st go) (fun r1 s1 ⟨u, hr, h4⟩ => ?_) fun _ _ q => q
        subst hr
        refine wpAny_mono h4 (fun _ s5 ⟨x, H5, I5, r5, y5, st5, fr5⟩ => ?_) fun _ _ q => q.elim
        (have I5' := I5.pinned (stat fr5) (T.obj _ _ st5))
        refine wpAny_mono (hg.run _ s5 σ H5 x u _ I5' r5 (step x H5 y5)) (fun _ s6 ⟨σ6, H6, I6, q6⟩ => ?_) fun x s' hx => ee n s₀ x s' hx
        have ipn : ∀ q ∈ ip ++ pinsAt fp s5.heap, q.1 ≠ S := fun q hq => by
          rcases List.mem_append.mp hq with z | z
          · exact g.ip q z
          · exact Ne.symm (nS q.1 (of_pinsAt z).1)
        have gl2 : GC X S (ip ++ pinsAt fp s5.heap) A (.forLoop tg (.ref it) body [] X.env) (retF X.env K J gd lv c p :: fs) id :=
          ⟨g.pn, ipn, g.apart, gl.over, gl.split, gl.guard, rfl⟩
        have back : ∀ {ys' : List V} {σ' : L2.St} {H' : Hp} {s' : Shared}, GI X S (ip ++ pinsAt fp s5.heap) ys' σ' H' s' → GI X S ip ys' σ' H' s' ∧ tn (i + 1) s'.heap ∧ ∀ b ∈ fp, H' b = none := fun {ys' σ' H' s'} ⟨acc', cc', r', I'⟩ => by
          have pin : ∀ b ∈ fp, ∀ o, s5.heap.get? b = some o → s'.heap.get? b = some o ∧ H' b = none := fun b hb o e =>
            let z := I'.pin (b, o) (List.mem_append_right _ (List.mem_cons_of_mem _ (List.mem_append_right _ (mem_pinsAt hb e))))
            ⟨z.1, z.2.1⟩
          refine ⟨⟨acc', cc', r', I'.pins_of fun q hq => I'.pin q ?_⟩, T.keep _ _ _ st5 fun b hb o e => (pin b hb o e).1, fun b hb => ?_⟩
          · refine List.mem_append_right _ ?_
            rcases List.mem_cons.mp hq with z | z
            · rw [z]; exact List.mem_cons_self
            · exact List.mem_cons_of_mem _ (List.mem_append_left _ z)
          · obtain ⟨o, e, _⟩ := T.obj _ _ st5 b hb
            exact (pin b hb o e).2
        refine hb.run A S (ip ++ pinsAt fp s5.heap) R n ys s₀ _ _ _ _ id id s6 σ6 H6 { D with nx := N, ct := N, bk := D.nx } gl2 hn ⟨fun n' ys' s₀' s7 f hn' hs => ?_, fun n' s₀' x s7 hx => ee n' s₀' x s7 hx⟩ ⟨acc, cc, r, I6⟩ q6
        cases f with
        | next =>
          obtain ⟨σ7, H7, I7, n7⟩ := hs
          obtain ⟨m', hm, w7⟩ := hN ys' σ7 H7 n7
          obtain ⟨b1, b2, b3⟩ := back I7
          exact seg_again rfl (ih m' hm (i + 1) n' ys' s₀' s7 σ7 H7 hn' w7 b1 b2 b3)
        | cont =>
          obtain ⟨σ7, H7, I7, n7⟩ := hs
          obtain ⟨m', hm, w7⟩ := hN ys' σ7 H7 n7
          obtain ⟨b1, b2, b3⟩ := back I7
          exact seg_again rfl (ih m' hm (i + 1) n' ys' s₀' s7 σ7 H7 hn' w7 b1 b2 b3)
        | brk =>
          obtain ⟨σ7, H7, I7, n7⟩ := hs
          exact seg_leaf (.ok .next) (k.ok n' ys' s₀' s7 .next hn' ⟨σ7, H7, (back I7).1, n7⟩)
        | ret v =>
          obtain ⟨v7, σ7, H7, I7, r7, n7⟩ := hs
          exact seg_leaf (.ok (.ret v)) (k.ok n' ys' s₀' s7 (.ret v) hn' ⟨v7, σ7, H7, (back I7).1, r7, n7⟩)
  exact loop m0 0 n ys s₀ s2 σ H2 hn w0 ⟨acc, cc, r, I2⟩ st2 fun b hb => (f2 b hb).1
end
end GSF
end
section
namespace PL
open PySem PySem.Spec PyProof.Rows L2 GSF
variable {K : PySem.W.Frag} {ad : Cl → Addr} {ct : CT}
variable {fr : Fr} {F F' H H' : Hp} {σ : L2.St} {ρ : List Sl} {W : WX}
/-! a generator def that list() drains: what it hands out is a list -/
abbrev MG := List D → M (Fl × List D)
def gP (m : M Fl) : MG := fun ys => bnd m fun f => pur (f, ys)
def gY (e : Ev) : MG := fun ys => bnd (dat e) fun d => if ys.length < 16777216 then pur (.nx, ys ++ [d]) else fai
def gSeq (a b : MG) : MG := fun ys => bnd (a ys) fun x => match x.1 with | .nx => b x.2 | _ => pur x
def gIf (c : M Bool) (a b : MG) : MG := fun ys => bnd c fun t => if t then a ys else b ys
def gNx : MG := fun ys => pur (.nx, ys)
def gLoop (tg : Tg) (b : MG) : List D → MG
  | [], ys => pur (.nx, ys)
  | x :: xs, ys => bnd (asgT tg x) fun f => match f with
    | .nx => bnd (b ys) fun r => match r.1 with
      | .nx => gLoop tg b xs r.2
      | .ct => gLoop tg b xs r.2
      | .bk => pur (.nx, r.2)
      | .rt x => pur (.rt x, r.2)
    | _ => fai
def gFor (it : M (List D)) (tg : Tg) (b : MG) : MG := fun ys => bnd it fun xs => gLoop tg b xs ys
/-- a call: what comes out is a new list -/
def runG (k : Nat) (m : MG) : Fn := fun ss => match m [] (ss ++ List.replicate k .un) with
  | some (.ok (.nx, out), ρ) => some (.ok (.c (.lst out)), outs ss ρ)
  | _ => none
variable (K ct) in
def GSat (D : GEnds) (fr : Fr) (F : Hp) (ρ : List Sl) (m : M (Fl × List PL.D)) : Prop := ∃ f out ρ', m ρ = some (.ok (f, out), ρ') ∧ ∀ ys σ' F' H', Same F F' → Rel K ct fr F' H' σ' ρ' → Rps K ct.ad F' ys out → match f with
  | .nx => D.nx ys σ' H'
  | .bk => D.bk ys σ' H'
  | .ct => D.ct ys σ' H'
  | .rt _ => False
variable (K ct) in
def TGS (m : MG) : TGn := fun D ys σ H => ∃ fr F ρ ds, Rel K ct fr F H σ ρ ∧ Rps K ct.ad F ys ds ∧ GSat K ct D fr F ρ (m ds)
theorem GSat.mono {D : GEnds} {m : M (Fl × List PL.D)} (h : GSat K ct D fr F ρ m) (s : Same F F') : GSat K ct D fr F' ρ m := by
  obtain ⟨f, out, ρ', e, q⟩ := h
  exact ⟨f, out, ρ', e, fun ys σ' F1 H1 s1 => q ys σ' F1 H1 (s.trans s1)⟩
theorem GSat.bnd {α β : Type} {R : Rel3 β α} {D : GEnds} {m : M α} {k : α → M (Fl × List PL.D)} {Q1 : β → Hp → Prop} (h : GSat K ct D fr F ρ (PL.bnd m k)) (S : Rel K ct fr F H σ ρ)
    (hq : ∀ F1 H1 ρ1 v a, Same F F1 → Rel K ct fr F1 H1 σ ρ1 → R fr F1 H1 σ ρ1 v a → GSat K ct D fr F1 ρ1 (k a) → Q1 v H1) : T K ct R (fun _ _ _ _ => False) m σ H Q1 := by
  refine ⟨fr, F, ρ, S, ?_⟩
  obtain ⟨f, out, ρ', e, q⟩ := h
  unfold PL.bnd at e
  cases em : m ρ with
  | none => rw [em] at e; cases e
  | some x =>
    obtain ⟨r1, ρ1⟩ := x
    rw [em] at e
    cases r1 with
    | ok a => exact ⟨.ok a, ρ1, em, fun v F1 H1 s1 S1 r1 => hq F1 H1 ρ1 v a s1 S1 r1 ⟨f, out, ρ', e, fun ys σ' F' H' s' => q ys σ' F' H' (s1.trans s')⟩⟩
    | er c pl => cases e
theorem GSat.dat {D : GEnds} {m : Ev} {k : PL.D → M (Fl × List PL.D)} {Q1 : V → Hp → Prop} (h : GSat K ct D fr F ρ (PL.bnd (PL.dat m) k)) (S : Rel K ct fr F H σ ρ)
    (hq : ∀ F1 H1 ρ1 v d, Same F F1 → Rel K ct fr F1 H1 σ ρ1 → Rp K ct.ad F1 v d → GSat K ct D fr F1 ρ1 (k d) → Q1 v H1) : T K ct (RV K ct.ad) (fun _ _ _ _ => False) m σ H Q1 := by
  have e : PL.bnd (PL.dat m) k = PL.bnd m fun r => PL.bnd (match r with | Rv.d d => pur d | Rv.c c => PL.opt c.froz) k := by
    funext ρ
    unfold PL.dat PL.bnd
    cases em : m ρ with
    | none => rfl
    | some x =>
      obtain ⟨r1, ρ1⟩ := x
      cases r1 with
      | ok a => cases a <;> rfl
      | er c pl => rfl
  rw [e] at h
  refine GSat.bnd h S fun F1 H1 ρ1 v r s1 S1 r1 q => ?_
  cases r with
  | d d => exact hq F1 H1 ρ1 v d s1 S1 r1 q
  | c c =>
    obtain ⟨p, ev, fp⟩ := r1
    subst ev
    cases ef : c.froz with
    | none =>
      obtain ⟨f, out, ρ', e, q⟩ := q
      have e : PL.bnd (PL.opt c.froz) k ρ1 = some (.ok (f, out), ρ') := e
      rw [ef] at e
      cases e
    | some d =>
      obtain ⟨F2, s2, rp, S2⟩ := fp.frz S1 ef
      refine hq F2 H1 ρ1 _ d (s1.trans s2) S2 rp ?_
      have q2 := q.mono s2
      obtain ⟨f, out, ρ', e, q⟩ := q2
      have e : PL.bnd (PL.opt c.froz) k ρ1 = some (.ok (f, out), ρ') := e
      rw [ef] at e
      exact ⟨f, out, ρ', e, q⟩
section
variable {X : Cx} {st : Stmt} {rest : List Stmt} {a b : MG}
theorem _root_.L2.GS.imp {t t' : TGn} (h : GS X st t) (w : ∀ D ys σ H, t' D ys σ H → t D ys σ H) : GS X st t' := ⟨fun A S ip R n ys s₀ c fs K J gd lv s σ H D g hn k hI ht => h.run A S ip R n ys s₀ c fs K J gd lv s σ H D g hn k hI (w _ _ _ _ ht)⟩
theorem _root_.L2.GSs.imp {t t' : TGn} (h : GSs X rest t) (w : ∀ D ys σ H, t' D ys σ H → t D ys σ H) : GSs X rest t' := ⟨fun A S ip R n ys s₀ c fs K J gd lv s σ H D g hn k hI ht => h.run A S ip R n ys s₀ c fs K J gd lv s σ H D g hn k hI (w _ _ _ _ ht)⟩
theorem ps_nox {t : TS} (h : PS X.nox st t) : PS X st t := ⟨fun pins s σ H D I hw => wpAny_mono (h.run pins s σ H D (I.wish _) hw) (fun _ _ q => SP.unwish q) fun _ _ z => False.elim z⟩
theorem g_p {m : M Fl} (h : PS X.nox st (TSt K ct (fun _ _ _ _ => False) m)) : GS X st (TGS K ct (gP m)) := (gs_ps (ps_nox h)).imp fun D ys σ H ⟨fr, F, ρ, ds, S, r, f, out, ρ', e, q⟩ => by
  have e : PL.bnd m (fun f => pur (f, ds)) ρ = some (.ok (f, out), ρ') := e
  unfold PL.bnd at e
  cases em : m ρ with
  | none => rw [em] at e; cases e
  | some x =>
    obtain ⟨r1, ρ1⟩ := x
    rw [em] at e
    cases r1 with
    | er c pl => cases e
    | ok fl =>
      cases e
      refine ⟨fr, F, ρ, S, _, _, em, ?_⟩
      cases f with
      | nx => exact fun σ' F' H' s' S' => q ys σ' F' H' s' S' (r.mono s')
      | bk => exact fun σ' F' H' s' S' => q ys σ' F' H' s' S' (r.mono s')
      | ct => exact fun σ' F' H' s' S' => q ys σ' F' H' s' S' (r.mono s')
      | rt x => exact fun σ' v F' H' s' S' _ => (q ys σ' F' H' s' S' (r.mono s')).elim
theorem g_y {e : Expr} {m : Ev} {yp pos : Pos} (he : PE X.nox e (TP K ct (fun _ _ _ _ => False) m)) (hco : X.env.scope.isCoroutine = false := by rfl) (hi : interactive X.env = false := by rfl) : GS X (.Expr (.Yield (some e) yp) pos) (TGS K ct (gY m)) := (gs_yield he.nox hco hi).imp fun D ys σ H ⟨fr, F, ρ, ds, S, r, h⟩ => by
  have lt : ys.length < sizeLine := by
    rw [sizeLine_eq, r.len]
    by_cases l : ds.length < 16777216
    · exact l
    · exfalso
      obtain ⟨f, out, ρ', e, q⟩ := h
      have e : PL.bnd (PL.dat m) (fun d => if ds.length < 16777216 then pur (Fl.nx, ds ++ [d]) else fai) ρ = some (.ok (f, out), ρ') := e
      unfold PL.bnd at e
      cases em : PL.dat m ρ with
      | none => rw [em] at e; cases e
      | some x =>
        obtain ⟨r1, ρ1⟩ := x
        rw [em] at e
        cases r1 with
        | er c pl => cases e
        | ok d =>
          have e : (if ds.length < 16777216 then pur (Fl.nx, ds ++ [d]) else fai : M (Fl × List PL.D)) ρ1 = some (.ok (f, out), ρ') := e
          rw [if_neg l] at e
          cases e
  refine ⟨lt, GSat.dat h S fun F1 H1 ρ1 v d s1 S1 r1 h1 => ?_⟩
  rw [if_pos (by rw [← r.len]; rw [sizeLine_eq] at lt; exact lt)] at h1
  obtain ⟨f, out, ρ', e, q⟩ := h1
  cases e
  exact q (ys ++ [v]) σ F1 H1 (Same.refl _) S1 ((r.mono s1).snoc r1)
theorem g_nil : GSs X [] (TGS K ct gNx) := gss_nil.imp fun D ys σ H ⟨fr, F, ρ, ds, S, r, f, out, ρ', e, q⟩ => by
  cases e
  exact q ys σ F H (Same.refl _) S r
theorem g_c (h1 : GS X st (TGS K ct a)) (h2 : GSs X rest (TGS K ct b)) : GSs X (st :: rest) (TGS K ct (gSeq a b)) := (gss_cons h1 h2).imp fun D ys σ H ⟨fr, F, ρ, ds, S, r, f, out, ρ', e, q⟩ => by
  have e : PL.bnd (a ds) (fun x => match x.1 with | .nx => b x.2 | _ => pur x) ρ = some (.ok (f, out), ρ') := e
  unfold PL.bnd at e
  cases em : a ds ρ with
  | none => rw [em] at e; cases e
  | some x =>
    obtain ⟨r1, ρ1⟩ := x
    rw [em] at e
    cases r1 with
    | er c pl => cases e
    | ok y =>
      obtain ⟨fl, o1⟩ := y
      refine ⟨fr, F, ρ, ds, S, r, fl, o1, ρ1, em, ?_⟩
      cases fl with
      | nx => exact fun ys' σ' F' H' s' S' r' => ⟨fr, F', ρ1, o1, S', r', f, out, ρ', e, fun ys2 σ2 F2 H2 s2 => q ys2 σ2 F2 H2 (s'.trans s2)⟩
      | bk => cases e; exact q
      | ct => cases e; exact q
      | rt x => cases e; exact q
theorem g_if {c : Expr} {xs ys : List Stmt} {t : M Bool} {pos : Pos} (hc : PT X.nox c (TB K ct (fun _ _ _ _ => False) t)) (ha : GSs X xs (TGS K ct a)) (hb : GSs X ys (TGS K ct b)) : GS X (.If c xs ys pos) (TGS K ct (gIf t a b)) := (gs_if hc.nox ha hb).imp fun D ys σ H ⟨fr, F, ρ, ds, S, r, h⟩ => by
  refine GSat.bnd h S fun F1 H1 ρ1 v d s1 S1 r1 h1 => ?_
  obtain rfl : v = d := r1
  cases v with
  | true => exact ⟨fr, F1, ρ1, ds, S1, r.mono s1, h1⟩
  | false => exact ⟨fr, F1, ρ1, ds, S1, r.mono s1, h1⟩
theorem pi_nox {tg iter : Expr} {wi : TI} (h : PI X.nox tg iter wi) : PI X tg iter wi := ⟨fun pins s σ H R I hw => wpAny_mono (h.run pins s σ H R (I.wish _) hw) (fun v s1 q => wpAny_mono q (fun u s2 ⟨it, fp, tn, J, H', e, I2, T, st, f, r⟩ => ⟨it, fp, tn, J, H', e, I2.unwish, T, st, f, r⟩) fun _ _ z => False.elim z) fun _ _ z => False.elim z⟩
theorem pg_nox {tg : Expr} {t : TG} (h : PG X.nox tg t) : PG X tg t := ⟨fun pins s σ H v u Q I r q => wpAny_mono (h.run pins s σ H v u Q (I.wish _) r q) (fun _ _ ⟨σ', H', I', q'⟩ => ⟨σ', H', I'.unwish, q'⟩) fun _ _ z => False.elim z⟩
theorem g_for {tg iter : Expr} {body : List Stmt} {it : M (List PL.D)} {t : Tg} {pos : Pos} (hp : PassesOwn (model X.prog X.w) X.A X.env X.xe) (hc : X.calm = true) (hi : PI X.nox tg iter (TIt K ct (fun _ _ _ _ => False) it)) (hg : PG X.nox tg (TGt K ct t)) (hb : GSs X body (TGS K ct b))
    (hs : ∀ x, foldedSetIterable iter X.env x = pure x := by intro _; rfl) : GS X (.For tg iter body [] pos) (TGS K ct (gFor it t b)) := (gs_for hp hc (pi_nox hi) (pg_nox hg) hb hs).imp fun D ys σ H ⟨fr, F, ρ, ds, S, r, h⟩ => by
  refine GSat.bnd h S fun F1 H1 ρ1 J xs s1 S1 r1 h1 => ?_
  refine ⟨fun i m ys σ H => m = xs.length - i ∧ i ≤ xs.length ∧ ∃ F2 ρ2 ds2, Same F1 F2 ∧ Rel K ct fr F2 H σ ρ2 ∧ Rps K ct.ad F2 ys ds2 ∧ GSat K ct D fr F2 ρ2 (gLoop t b (xs.drop i) ds2), ⟨xs.length, by simp, Nat.zero_le _, F1, ρ1, ds, Same.refl _, S1, r.mono s1, h1⟩, ?_⟩
  rintro i m ys2 σ2 H2 ⟨rfl, hi, F2, ρ2, ds2, s2, S2, r2, h2⟩
  have it := r1 F2 H2 s2 S2.fh i
  by_cases lt : i < xs.length
  · refine .inr ?_
    obtain ⟨go, yl⟩ := it.1 xs[i] (List.getElem?_eq_getElem lt)
    refine ⟨go, fun ys' σ' H' => ∃ F3 ρ3 ds3, Same F1 F3 ∧ Rel K ct fr F3 H' σ' ρ3 ∧ Rps K ct.ad F3 ys' ds3 ∧ GSat K ct D fr F3 ρ3 (gLoop t b (xs.drop (i + 1)) ds3), fun ys' σ' H' ⟨F3, ρ3, ds3, s3, S3, r3, h3⟩ => ⟨xs.length - (i + 1), by omega, rfl, lt, F3, ρ3, ds3, s3, S3, r3, h3⟩, fun v H3 y => ?_⟩
    obtain ⟨F3, al, rp⟩ := yl v H3 y
    have S3 := S2.al al
    rw [List.drop_eq_getElem_cons lt] at h2
    have h2 := GSat.mono h2 al.1
    obtain ⟨f, out, ρ', e, q⟩ := h2
    unfold gLoop PL.bnd at e
    cases ea : asgT t xs[i] ρ2 with
    | none => rw [ea] at e; cases e
    | some x =>
      obtain ⟨rx, ρ4⟩ := x
      rw [ea] at e
      cases rx with
      | er c pl => cases e
      | ok fl =>
        cases fl with
        | nx =>
          refine ⟨fr, F3, ρ2, xs[i], ρ4, S3, rp, ea, fun σ4 F4 H4 s4 _ S4 => ⟨fr, F4, ρ4, ds2, S4, r2.mono (al.1.trans s4), ?_⟩⟩
          have sF : Same F1 F4 := (s2.trans al.1).trans s4
          have e : PL.bnd (b ds2) (fun r => match r.1 with | .nx => gLoop t b (xs.drop (i + 1)) r.2 | .ct => gLoop t b (xs.drop (i + 1)) r.2 | .bk => pur (.nx, r.2) | .rt x => pur (.rt x, r.2)) ρ4 = some (.ok (f, out), ρ') := e
          unfold PL.bnd at e
          cases eb : b ds2 ρ4 with
          | none => rw [eb] at e; cases e
          | some y =>
            obtain ⟨ry, ρ5⟩ := y
            rw [eb] at e
            cases ry with
            | er c pl => cases e
            | ok z =>
              obtain ⟨fl, o1⟩ := z
              refine ⟨fl, o1, ρ5, eb, ?_⟩
              have next : ∀ (e : gLoop t b (xs.drop (i + 1)) o1 ρ5 = some (.ok (f, out), ρ')) ys' σ' F' H', Same F4 F' → Rel K ct fr F' H' σ' ρ5 → Rps K ct.ad F' ys' o1 → ∃ F3 ρ3 ds3, Same F1 F3 ∧ Rel K ct fr F3 H' σ' ρ3 ∧ Rps K ct.ad F3 ys' ds3 ∧ GSat K ct D fr F3 ρ3 (gLoop t b (xs.drop (i + 1)) ds3) := fun e ys' σ' F' H' s' S' r' =>
                ⟨F', ρ5, o1, sF.trans s', S', r', GSat.mono (F := F3) ⟨f, out, ρ', e, q⟩ (s4.trans s')⟩
              cases fl with
              | nx => exact fun ys' σ' F' H' s' S' r' => next e ys' σ' F' H' s' S' r'
              | ct => exact fun ys' σ' F' H' s' S' r' => next e ys' σ' F' H' s' S' r'
              | bk => cases e; exact fun ys' σ' F' H' s' S' r' => q ys' σ' F' H' (s4.trans s') S' r'
              | rt x => cases e; exact fun ys' σ' F' H' s' S' r' => q ys' σ' F' H' (s4.trans s') S' r'
        | _ => cases e
  · refine .inl ⟨it.2 (by omega), ?_⟩
    rw [List.drop_eq_nil_of_le (by omega)] at h2
    obtain ⟨f, out, ρ', e, q⟩ := h2
    cases e
    exact q ys2 σ2 F2 H2 (Same.refl _) S2 r2
end
/-! the def -/
variable (K ad) in
def spG (n k : Nat) (m : MG) : SpG := fun vs H Q _ => vs.length = n ∧ ∃ fr F ss, Rel K (cx ad) fr F H (vs.map some) ss ∧ ∃ out ρ', m [] (ss ++ List.replicate k .un) = some (.ok (.nx, out), ρ') ∧ ∀ ys F' H', Same F F' → Rel K (cx ad) fr F' H' (vs.map some) (outs ss ρ') → Rps K ad F' ys out → Q ys H'
theorem Rel.start {n k : Nat} {vs : List V} {N : List Str} {ss : List Sl} (hn : vs.length = n) (hN : N.length = n + k) (S : Rel K (cx ad) fr F H (vs.map some) ss) : Rel K (cx ad) fr F H (L2.start N vs) (ss ++ List.replicate k .un) := by
  have l1 : vs.length = ss.length := by have := S.len; rw [List.length_map] at this; exact this
  have ek : N.length - vs.length = k := by omega
  unfold L2.start
  rw [ek]
  have cel : ∀ {i : Nat} {k' : CK} {c : CC}, (ss ++ List.replicate k Sl.un)[i]? = some (.cel k' c) → ss[i]? = some (.cel k' c) := fun {i k' c} z => by
    by_cases l : i < ss.length
    · rw [List.getElem?_append_left l] at z; exact z
    · rw [List.getElem?_append_right (by omega), List.getElem?_replicate] at z
      split at z <;> cases z
  have get : ∀ {i : Nat}, i < ss.length → (vs.map some ++ List.replicate k (none : Option V))[i]? = (vs.map some)[i]? := fun {i} l => List.getElem?_append_left (by rw [List.length_map]; omega)
  refine ⟨by simp [l1], S.fh, fun i s0 z => ?_, fun i j k1 c k2 c' p z1 z2 z3 z4 => ?_, S.keep, S.fro, fun i p z => ?_⟩
  · by_cases l : i < ss.length
    · rw [List.getElem?_append_left l] at z
      obtain ⟨o, g1, g2⟩ := S.slot i s0 z
      exact ⟨o, by rw [get l]; exact g1, g2⟩
    · have l3 := (List.getElem?_eq_some_iff.mp z).1
      rw [List.getElem?_append_right (by omega), List.getElem?_replicate] at z
      split at z
      · cases z
        refine ⟨none, ?_, trivial⟩
        rw [List.getElem?_append_right (by rw [List.length_map]; omega), List.getElem?_replicate, if_pos (by simp at l3 ⊢; omega)]
      · cases z
  · have y1 := cel z1
    have y2 := cel z2
    rw [get (List.getElem?_eq_some_iff.mp y1).1] at z3
    rw [get (List.getElem?_eq_some_iff.mp y2).1] at z4
    exact S.dis i j _ _ _ _ p y1 y2 z3 z4
  · obtain ⟨k1, c, h1, h2⟩ := S.pcs i p z
    exact ⟨k1, c, by rw [List.getElem?_append_left (List.getElem?_eq_some_iff.mp h1).1]; exact h1, h2⟩
theorem body_endG {n k : Nat} {m : MG} {vs : List V} {N : List Str} {H : Hp} {Q : List V → Hp → Prop} {E : XK} (hN : N.length = n + k) (h : spG K ad n k m vs H Q E) :
    TGS K (cx ad) m { nx := fun ys _ H' => Q ys H', rt := fun ys v H' => v = .non ∧ Q ys H' } [] (L2.start N vs) H := by
  obtain ⟨hn, fr, F, ss, S, out, ρ', e, q⟩ := h
  exact ⟨fr, F, _, [], Rel.start hn hN S, .nil, .nx, out, ρ', e, fun ys σ' F' H' s S' r => q ys F' H' s (S.outs S' s) r⟩
section
variable {P : Program} {w : World} {mg : Str → Option Value} {base : Heap} {x qual : Str} {st : Stmt} {f : Addr} {fd : FuncData} {N ps : List Str} {lv : Nat} {n k : Nat} {m : MG}
theorem okG (Fd : L2.Fun K x qual st f fd) (S : GScope N ps (defScope st)) (hp : ps.length = n) (hN : N.length = n + k)
    (hb : ∀ (cdv : Value) (A : Around) (outer : List Env) (s0 : Shared) (H : Hp) (E : XK) (pn : List (Addr × Obj)), Room lv (A.deeper (envOfC qual (defScope st) s0.heap.objs.size f cdv)) →
      GSs (gcxOf P w K mg base N qual (defScope st) f cdv A outer s0 H E pn) (defBody st) (TGS K (cx ad) m)) : GFn P w K mg base (lv + 1) f fd ps (spG K ad n k m) := by
  obtain ⟨oc, od, kV, doc, pm, an, cdv, ct, osl, rfl, lk, hcd⟩ := Fd.ex
  exact gfn_of lk hcd S (fun vs H Q E h => by rw [hp]; exact h.1) fun A outer s H vs Q E pn hr h => ⟨_, hb cdv A outer s H E pn hr, body_endG hN h⟩
end
/-! list(g) -/
theorem spP_G {n k : Nat} {m : MG} {vs : List V} {H : Hp} {Q : VK} {E E' : XK} (h : spP K ad n (runG k m) vs H Q E) : spG K ad n k m vs H (fun ys H2 => ∀ p, H2 p = none → Q (.ref p) (upd H2 p (.lst ys))) E' := by
  obtain ⟨hn, fr, F, ss, S, hP, hF, r, ss', e, q⟩ := h
  unfold runG at e
  split at e
  · rename_i out ρ1 e1
    cases e
    exact ⟨hn, fr, F, ss, S, out, _, e1, fun ys F' H' s S' rr p hp => q _ F' (upd H' p (.lst ys)) s (S'.newC hp) ⟨p, rfl, S'.fresh hp ⟨ys, upd_same, rr⟩⟩⟩
  · cases e
theorem noStop0 {K : PySem.W.Frag} : NoStop K E0 := fun _ _ _ h => h.elim
section
variable {X : Cx} {k k2 n : Nat} {f : Addr} {fd : FuncData} {ps : List Str} {nm x : Str} {p pos pos' apos p2 : Pos} {o e : Expr} {es : List Expr} {M : MG} {as : List AE}
theorem pp_lstGM {m : Str} {pl : Sem Bool} {fo : Ev} (c : Cl) (he : PE X o (TP K ct W fo)) (cl : Cls X.K (ct.ad c)) (hm : Meth X.K (ct.ad c) m f) (Fn : GFn X.prog X.w X.K X.mg X.base k f fd ps (spG K ct.ad n k2 M)) (hr : Room (k + 3) X.A) (hb : Binds X.K fd ps []) (hx : Passes (L2.CX X.prog X.w) X E0)
    (hg : Gl X nm) (hmg : X.mg nm = none) (hv : bootBuiltins nm = some (.type "list")) (nn : c.fn.findIdx? (fun k => m == k) = none := by decide) (hnm : nm ≠ "__name__" := by decide) (hdb : (nm == ("__debug__" : Str)) = false := by decide)
    (hst : starEach [.Call (.Attribute o m apos) [] [] pos'] X.env = (false, eval (.Call (.Attribute o m apos) [] [] pos') X.env) :: starEach [] X.env := by rfl) (ht : CallsM X o m apos pos' pl [] := by rfl) :
    PE X (.Call (.Name nm p) [.Call (.Attribute o m apos) [] [] pos'] [] pos) (TP K ct W (evMeth n (runG k2 M) c fo [])) := (pe_listG (E := E0) (pgen_meth0 he cl hm Fn (hr.mono (by omega)) hb .nil ht) hx noStop0 hr hg hmg hv hnm hdb hst).imp fun σ H Q h => by
  obtain ⟨fr, F, ρ, S, h⟩ := h
  unfold evMeth at h
  rw [dcont (k := fun c xs => bnd (evAs []) fun ar => noEr (callG n (runG k2 M) (.d (.obj c xs) :: ar)))] at h
  refine Tat.obj h S fun F1 H1 ρ1 a dx vs xs s1 S1 h1 l1 k1 h => ?_
  refine ⟨a, dx, _, rfl, S1.fh _ _ h1, look_no nn, ?_⟩
  exact spP_G (E' := E0) (Tat.call (W := fun _ _ _ _ => False) (ar := [.d (.obj c xs)]) (Tat.noEr h) S1 (RAs.cons (Rp.obj h1 l1 k1) RAs.nil) fun _ _ _ z => z)
end
end PL
namespace PL
open PySem PySem.Spec PyProof.Rows L2
theorem passG {X : Cx} : Passes (L2.CX X.prog X.w) X E0 := fun pins σ H s e s' _ h => by
  obtain ⟨a, B, H', cls, d, _, _, _, _, _, _, _, hW⟩ := h
  exact hW.elim
end PL
end
namespace DP
open PySem PySem.Spec PyProof.Rows L2 PL
def topS (i : Nat) : Stmt := PySem.Challenge.pw_dampspells_k04_weather_cut_and_joined.main.body.getD i (.Pass ⟨0, 0, 0, 0⟩)
abbrev s_Weather_init : Stmt := inClass (topS 9) 0
abbrev N_Weather_init : List Str := ["self", "lengths"]
theorem sc_Weather_init : FnScope ["self", "lengths"] ["self", "lengths"] (defScope s_Weather_init) := ⟨rfl, rfl, rfl, by decide +kernel, rfl, by decide +kernel, by decide +kernel⟩
abbrev s_Weather_hours : Stmt := inClass (topS 9) 1
abbrev N_Weather_hours : List Str := ["self"]
theorem sc_Weather_hours : FnScope ["self"] ["self"] (defScope s_Weather_hours) := ⟨rfl, rfl, rfl, by decide +kernel, rfl, by decide +kernel, by decide +kernel⟩
abbrev s_Weather_iter : Stmt := inClass (topS 9) 2
abbrev N_Weather_iter : List Str := ["self"]
theorem sc_Weather_iter : FnScope ["self"] ["self"] (defScope s_Weather_iter) := ⟨rfl, rfl, rfl, by decide +kernel, rfl, by decide +kernel, by decide +kernel⟩
abbrev s_Weather_eq : Stmt := inClass (topS 9) 3
abbrev N_Weather_eq : List Str := ["self", "other"]
theorem sc_Weather_eq : FnScope ["self", "other"] ["self", "other"] (defScope s_Weather_eq) := ⟨rfl, rfl, rfl, by decide +kernel, rfl, by decide +kernel, by decide +kernel⟩
abbrev s_Weather_add : Stmt := inClass (topS 9) 4
abbrev N_Weather_add : List Str := ["self", "other", "middle"]
theorem sc_Weather_add : FnScope ["self", "other", "middle"] ["self", "other"] (defScope s_Weather_add) := ⟨rfl, rfl, rfl, by decide +kernel, rfl, by decide +kernel, by decide +kernel⟩
abbrev s_Weather_of_signs : Stmt := inClass (topS 9) 5
abbrev N_Weather_of_signs : List Str := ["signs"]
theorem sc_Weather_of_signs : FnScope ["signs"] ["signs"] (defScope s_Weather_of_signs) := ⟨rfl, rfl, rfl, by decide +kernel, rfl, by decide +kernel, by decide +kernel⟩
abbrev s_Weather_signs : Stmt := inClass (topS 9) 6
abbrev N_Weather_signs : List Str := ["self", "at", "length"]
theorem sc_Weather_signs : FnScope ["self", "at", "length"] ["self"] (defScope s_Weather_signs) := ⟨rfl, rfl, rfl, by decide +kernel, rfl, by decide +kernel, by decide +kernel⟩
abbrev s_Weather_is_dry : Stmt := inClass (topS 9) 7
abbrev N_Weather_is_dry : List Str := ["self", "hour"]
theorem sc_Weather_is_dry : FnScope ["self", "hour"] ["self", "hour"] (defScope s_Weather_is_dry) := ⟨rfl, rfl, rfl, by decide +kernel, rfl, by decide +kernel, by decide +kernel⟩
abbrev s_Weather_first : Stmt := inClass (topS 9) 8
abbrev N_Weather_first : List Str := ["self", "n"]
theorem sc_Weather_first : FnScope ["self", "n"] ["self", "n"] (defScope s_Weather_first) := ⟨rfl, rfl, rfl, by decide +kernel, rfl, by decide +kernel, by decide +kernel⟩
abbrev s_Weather_runs : Stmt := inClass (topS 9) 9
abbrev N_Weather_runs : List Str := ["self", "hour", "at", "length"]
theorem sc_Weather_runs : GScope ["self", "hour", "at", "length"] ["self"] (defScope s_Weather_runs) := ⟨rfl, rfl, rfl, by decide +kernel, rfl, by decide +kernel, by decide +kernel⟩
abbrev s_Weather_spells : Stmt := inClass (topS 9) 10
abbrev N_Weather_spells : List Str := ["self", "hour", "run", "length"]
theorem sc_Weather_spells : GScope ["self", "hour", "run", "length"] ["self"] (defScope s_Weather_spells) := ⟨rfl, rfl, rfl, by decide +kernel, rfl, by decide +kernel, by decide +kernel⟩
abbrev s_Weather_back : Stmt := inClass (topS 9) 11
abbrev N_Weather_back : List Str := ["self"]
theorem sc_Weather_back : FnScope ["self"] ["self"] (defScope s_Weather_back) := ⟨rfl, rfl, rfl, by decide +kernel, rfl, by decide +kernel, by decide +kernel⟩
abbrev s_Weather_check_told : Stmt := inClass (topS 9) 12
abbrev N_Weather_check_told : List Str := ["self", "hour"]
theorem sc_Weather_check_told : FnScope ["self", "hour"] ["self", "hour"] (defScope s_Weather_check_told) := ⟨rfl, rfl, rfl, by decide +kernel, rfl, by decide +kernel, by decide +kernel⟩
abbrev s_f_lengths_of : Stmt := topS 10
abbrev N_f_lengths_of : List Str := ["signs", "lengths", "last", "sign"]
theorem sc_f_lengths_of : FnScope ["signs", "lengths", "last", "sign"] ["signs"] (defScope s_f_lengths_of) := ⟨rfl, rfl, rfl, by decide +kernel, rfl, by decide +kernel, by decide +kernel⟩
abbrev s_f_ends_damp : Stmt := topS 11
abbrev N_f_ends_damp : List Str := ["lengths"]
theorem sc_f_ends_damp : FnScope ["lengths"] ["lengths"] (defScope s_f_ends_damp) := ⟨rfl, rfl, rfl, by decide +kernel, rfl, by decide +kernel, by decide +kernel⟩
abbrev s_l_cell : Stmt := topS 13
abbrev N_l_cell : List Str := ["script", "k"]
theorem sc_l_cell : FnScope ["script", "k"] ["script", "k"] (defScope s_l_cell) := ⟨rfl, rfl, rfl, by decide +kernel, rfl, by decide +kernel, by decide +kernel⟩
abbrev s_l_pool : Stmt := topS 14
abbrev N_l_pool : List Str := ["cell"]
theorem sc_l_pool : FnScope ["cell"] ["cell"] (defScope s_l_pool) := ⟨rfl, rfl, rfl, by decide +kernel, rfl, by decide +kernel, by decide +kernel⟩
abbrev s_l_take : Stmt := topS 15
abbrev N_l_take : List Str := ["pool", "size", "digit", "x"]
theorem sc_l_take : FnScope ["pool", "size", "digit", "x"] ["pool", "size"] (defScope s_l_take) := ⟨rfl, rfl, rfl, by decide +kernel, rfl, by decide +kernel, by decide +kernel⟩
abbrev s_l_size : Stmt := topS 16
abbrev N_l_size : List Str := ["pool", "usual", "most"]
theorem sc_l_size : FnScope ["pool", "usual", "most"] ["pool", "usual", "most"] (defScope s_l_size) := ⟨rfl, rfl, rfl, by decide +kernel, rfl, by decide +kernel, by decide +kernel⟩
abbrev s_l_signs : Stmt := topS 17
abbrev N_l_signs : List Str := ["pool", "hours", "signs", "style", "damp", "k"]
theorem sc_l_signs : FnScope ["pool", "hours", "signs", "style", "damp", "k"] ["pool", "hours"] (defScope s_l_signs) := ⟨rfl, rfl, rfl, by decide +kernel, rfl, by decide +kernel, by decide +kernel⟩
abbrev s_l_lengths : Stmt := topS 18
abbrev N_l_lengths : List Str := ["signs", "lengths", "k"]
theorem sc_l_lengths : FnScope ["signs", "lengths", "k"] ["signs"] (defScope s_l_lengths) := ⟨rfl, rfl, rfl, by decide +kernel, rfl, by decide +kernel, by decide +kernel⟩
abbrev s_l_runs : Stmt := topS 19
abbrev N_l_runs : List Str := ["signs", "runs", "k", "end"]
theorem sc_l_runs : FnScope ["signs", "runs", "k", "end"] ["signs"] (defScope s_l_runs) := ⟨rfl, rfl, rfl, by decide +kernel, rfl, by decide +kernel, by decide +kernel⟩
abbrev s_l_spells : Stmt := topS 20
abbrev N_l_spells : List Str := ["signs", "spells", "k", "end"]
theorem sc_l_spells : FnScope ["signs", "spells", "k", "end"] ["signs"] (defScope s_l_spells) := ⟨rfl, rfl, rfl, by decide +kernel, rfl, by decide +kernel, by decide +kernel⟩
abbrev s_l_int : Stmt := topS 21
abbrev N_l_int : List Str := ["x"]
theorem sc_l_int : FnScope ["x"] ["x"] (defScope s_l_int) := ⟨rfl, rfl, rfl, by decide +kernel, rfl, by decide +kernel, by decide +kernel⟩
abbrev s_l_rows : Stmt := topS 22
abbrev N_l_rows : List Str := ["actual", "due", "k", "i"]
theorem sc_l_rows : FnScope ["actual", "due", "k", "i"] ["actual", "due"] (defScope s_l_rows) := ⟨rfl, rfl, rfl, by decide +kernel, rfl, by decide +kernel, by decide +kernel⟩
abbrev s_l_tells : Stmt := topS 23
abbrev N_l_tells : List Str := ["weather", "signs", "lengths", "dry", "told"]
theorem sc_l_tells : FnScope ["weather", "signs", "lengths", "dry", "told"] ["weather", "signs"] (defScope s_l_tells) := ⟨rfl, rfl, rfl, by decide +kernel, rfl, by decide +kernel, by decide +kernel⟩
abbrev s_l_parts : Stmt := topS 24
abbrev N_l_parts : List Str := ["weather", "signs", "runs", "spells"]
theorem sc_l_parts : FnScope ["weather", "signs", "runs", "spells"] ["weather", "signs"] (defScope s_l_parts) := ⟨rfl, rfl, rfl, by decide +kernel, rfl, by decide +kernel, by decide +kernel⟩
abbrev s_l_equals : Stmt := topS 25
abbrev N_l_equals : List Str := ["one", "other", "due", "actual"]
theorem sc_l_equals : FnScope ["one", "other", "due", "actual"] ["one", "other", "due"] (defScope s_l_equals) := ⟨rfl, rfl, rfl, by decide +kernel, rfl, by decide +kernel, by decide +kernel⟩
abbrev s_l_no_weather : Stmt := topS 26
abbrev N_l_no_weather : List Str := ["x", "y", "z", "way", "refused", "kin", "both", "e"]
theorem sc_l_no_weather : FnScope ["x", "y", "z", "way", "refused", "kin", "both", "e"] ["x", "y", "z", "way"] (defScope s_l_no_weather) := ⟨rfl, rfl, rfl, by decide +kernel, rfl, by decide +kernel, by decide +kernel⟩
abbrev s_l_no_first : Stmt := topS 27
abbrev N_l_no_first : List Str := ["weather", "n", "refused", "kin", "e"]
theorem sc_l_no_first : FnScope ["weather", "n", "refused", "kin", "e"] ["weather", "n"] (defScope s_l_no_first) := ⟨rfl, rfl, rfl, by decide +kernel, rfl, by decide +kernel, by decide +kernel⟩
abbrev s_l_cut : Stmt := topS 28
abbrev N_l_cut : List Str := ["weather", "signs", "n", "cut"]
theorem sc_l_cut : FnScope ["weather", "signs", "n", "cut"] ["weather", "signs", "n"] (defScope s_l_cut) := ⟨rfl, rfl, rfl, by decide +kernel, rfl, by decide +kernel, by decide +kernel⟩
abbrev s_l_turns : Stmt := topS 29
abbrev N_l_turns : List Str := ["weather", "signs", "back", "k"]
theorem sc_l_turns : FnScope ["weather", "signs", "back", "k"] ["weather", "signs"] (defScope s_l_turns) := ⟨rfl, rfl, rfl, by decide +kernel, rfl, by decide +kernel, by decide +kernel⟩
abbrev s_l_joins : Stmt := topS 30
abbrev N_l_joins : List Str := ["x", "y", "before", "behind", "at", "both"]
theorem sc_l_joins : FnScope ["x", "y", "before", "behind", "at", "both"] ["x", "y", "before", "behind", "at"] (defScope s_l_joins) := ⟨rfl, rfl, rfl, by decide +kernel, rfl, by decide +kernel, by decide +kernel⟩
abbrev s_l_adds : Stmt := topS 31
abbrev N_l_adds : List Str := ["x", "y", "before", "behind"]
theorem sc_l_adds : FnScope ["x", "y", "before", "behind"] ["x", "y", "before", "behind"] (defScope s_l_adds) := ⟨rfl, rfl, rfl, by decide +kernel, rfl, by decide +kernel, by decide +kernel⟩
abbrev s_l_law : Stmt := topS 32
abbrev N_l_law : List Str := ["script", "pool", "first", "second", "third", "n", "at", "x", "y", "z", "left", "right"]
theorem sc_l_law : FnScope ["script", "pool", "first", "second", "third", "n", "at", "x", "y", "z", "left", "right"] ["script"] (defScope s_l_law) := ⟨rfl, rfl, rfl, by decide +kernel, rfl, by decide +kernel, by decide +kernel⟩
structure S_DampError (K : PySem.W.Frag) (mg : Str → Option Value) (C : Addr) : Prop where
  mg : (mg "DampError" = some (.ref C))
  x : (PySem.W.excIn K C [.type "ValueError", .type "Exception", .type "BaseException", .type "object"] "ValueError.__new__" = true)
  kp : (PySem.W.keepIn K (.ref C) = true)
  b : (PySem.W.subIn K (.ref C) (.type "BaseException") = some true)
  t : (PySem.W.typeIn K (.ref C) = some (.type "type"))
  i : (PySem.W.isClsIn K C = true)
  s : (PySem.W.subIn K (.ref C) (.ref C) = some true)
  hg : (PySem.W.findIn K (.ref C) "__getattribute__" = some (some (.builtin "BaseException.__getattribute__")))
  hk : (PySem.W.findIn K (.ref C) "__getattr__" = some none)
  hd : (PySem.W.hasDictIn K C = true)
  ha : (PySem.W.findIn K (.ref C) "__class__" = some (some (.builtin "object.__class__")))
  hn : (PySem.W.specialIn K (.builtin "object.__class__") "__get__" = some (some (.builtin "getset_descriptor.__get__")))
  ht : (PySem.W.takesIn K (.builtin "object.__class__") = some true)
  hm : (PySem.W.mroIn K C (.type "object") = some true)
theorem S_DampError.ex {K : PySem.W.Frag} {mg : Str → Option Value} {C : Addr} (T : S_DampError K mg C) : ExcC K C := ⟨T.hg, T.hk, T.b, T.hd, T.ha, T.hn, T.ht, T.hm⟩
theorem S_DampError.te {K : PySem.W.Frag} {mg : Str → Option Value} {C : Addr} (T : S_DampError K mg C) : PySem.W.exmOne K (.ref C) (.ref C) = some true := PySem.W.exm_ref T.b T.hd T.t T.s
structure S_BadWeather (K : PySem.W.Frag) (mg : Str → Option Value) (C : Addr) : Prop where
  mg : (mg "BadWeather" = some (.ref C))
  x : (PySem.W.excIn K C [.type "ValueError", .type "Exception", .type "BaseException", .type "object"] "ValueError.__new__" = true)
  kp : (PySem.W.keepIn K (.ref C) = true)
  b : (PySem.W.subIn K (.ref C) (.type "BaseException") = some true)
  t : (PySem.W.typeIn K (.ref C) = some (.type "type"))
  i : (PySem.W.isClsIn K C = true)
  s : (PySem.W.subIn K (.ref C) (.ref C) = some true)
  hg : (PySem.W.findIn K (.ref C) "__getattribute__" = some (some (.builtin "BaseException.__getattribute__")))
  hk : (PySem.W.findIn K (.ref C) "__getattr__" = some none)
  hd : (PySem.W.hasDictIn K C = true)
  ha : (PySem.W.findIn K (.ref C) "__class__" = some (some (.builtin "object.__class__")))
  hn : (PySem.W.specialIn K (.builtin "object.__class__") "__get__" = some (some (.builtin "getset_descriptor.__get__")))
  ht : (PySem.W.takesIn K (.builtin "object.__class__") = some true)
  hm : (PySem.W.mroIn K C (.type "object") = some true)
theorem S_BadWeather.ex {K : PySem.W.Frag} {mg : Str → Option Value} {C : Addr} (T : S_BadWeather K mg C) : ExcC K C := ⟨T.hg, T.hk, T.b, T.hd, T.ha, T.hn, T.ht, T.hm⟩
theorem S_BadWeather.te {K : PySem.W.Frag} {mg : Str → Option Value} {C : Addr} (T : S_BadWeather K mg C) : PySem.W.exmOne K (.ref C) (.ref C) = some true := PySem.W.exm_ref T.b T.hd T.t T.s
structure S_BadHour (K : PySem.W.Frag) (mg : Str → Option Value) (C : Addr) : Prop where
  mg : (mg "BadHour" = some (.ref C))
  x : (PySem.W.excIn K C [.type "ValueError", .type "Exception", .type "BaseException", .type "object"] "ValueError.__new__" = true)
  kp : (PySem.W.keepIn K (.ref C) = true)
  b : (PySem.W.subIn K (.ref C) (.type "BaseException") = some true)
  t : (PySem.W.typeIn K (.ref C) = some (.type "type"))
  i : (PySem.W.isClsIn K C = true)
  s : (PySem.W.subIn K (.ref C) (.ref C) = some true)
  hg : (PySem.W.findIn K (.ref C) "__getattribute__" = some (some (.builtin "BaseException.__getattribute__")))
  hk : (PySem.W.findIn K (.ref C) "__getattr__" = some none)
  hd : (PySem.W.hasDictIn K C = true)
  ha : (PySem.W.findIn K (.ref C) "__class__" = some (some (.builtin "object.__class__")))
  hn : (PySem.W.specialIn K (.builtin "object.__class__") "__get__" = some (some (.builtin "getset_descriptor.__get__")))
  ht : (PySem.W.takesIn K (.builtin "object.__class__") = some true)
  hm : (PySem.W.mroIn K C (.type "object") = some true)
theorem S_BadHour.ex {K : PySem.W.Frag} {mg : Str → Option Value} {C : Addr} (T : S_BadHour K mg C) : ExcC K C := ⟨T.hg, T.hk, T.b, T.hd, T.ha, T.hn, T.ht, T.hm⟩
theorem S_BadHour.te {K : PySem.W.Frag} {mg : Str → Option Value} {C : Addr} (T : S_BadHour K mg C) : PySem.W.exmOne K (.ref C) (.ref C) = some true := PySem.W.exm_ref T.b T.hd T.t T.s
structure S_TooLarge (K : PySem.W.Frag) (mg : Str → Option Value) (C : Addr) : Prop where
  mg : (mg "TooLarge" = some (.ref C))
  x : (PySem.W.excIn K C [.type "ValueError", .type "Exception", .type "BaseException", .type "object"] "ValueError.__new__" = true)
  kp : (PySem.W.keepIn K (.ref C) = true)
  b : (PySem.W.subIn K (.ref C) (.type "BaseException") = some true)
  t : (PySem.W.typeIn K (.ref C) = some (.type "type"))
  i : (PySem.W.isClsIn K C = true)
  s : (PySem.W.subIn K (.ref C) (.ref C) = some true)
  hg : (PySem.W.findIn K (.ref C) "__getattribute__" = some (some (.builtin "BaseException.__getattribute__")))
  hk : (PySem.W.findIn K (.ref C) "__getattr__" = some none)
  hd : (PySem.W.hasDictIn K C = true)
  ha : (PySem.W.findIn K (.ref C) "__class__" = some (some (.builtin "object.__class__")))
  hn : (PySem.W.specialIn K (.builtin "object.__class__") "__get__" = some (some (.builtin "getset_descriptor.__get__")))
  ht : (PySem.W.takesIn K (.builtin "object.__class__") = some true)
  hm : (PySem.W.mroIn K C (.type "object") = some true)
theorem S_TooLarge.ex {K : PySem.W.Frag} {mg : Str → Option Value} {C : Addr} (T : S_TooLarge K mg C) : ExcC K C := ⟨T.hg, T.hk, T.b, T.hd, T.ha, T.hn, T.ht, T.hm⟩
theorem S_TooLarge.te {K : PySem.W.Frag} {mg : Str → Option Value} {C : Addr} (T : S_TooLarge K mg C) : PySem.W.exmOne K (.ref C) (.ref C) = some true := PySem.W.exm_ref T.b T.hd T.t T.s
structure S_Weather (K : PySem.W.Frag) (mg : Str → Option Value) (C : Addr) : Prop where
  pg : (PySem.W.plainGet K C Str.empty = true)
  hd : (PySem.W.hasDictIn K C = true)
  po : (PySem.W.plainOver K C = true)
  sa : (PySem.W.findIn K (.ref C) "__setattr__" = some (some (.builtin "object.__setattr__")))
  mg : (mg "Weather" = some (.ref C))
  sf : (PySem.W.selfFirst K C = true)
  nf : (PySem.W.notFirst K C (.ref C) = true)
  ha : (PySem.W.findIn K (.ref C) "__class__" = some (some (.builtin "object.__class__")))
  hn : (PySem.W.specialIn K (.builtin "object.__class__") "__get__" = some (some (.builtin "getset_descriptor.__get__")))
  ht : (PySem.W.takesIn K (.builtin "object.__class__") = some true)
  hm : (PySem.W.mroIn K C (.type "object") = some true)
  kp : (PySem.W.keepIn K (.ref C) = true)
  mkk : (PySem.W.makesIn K C = true)
  rd : (PySem.W.readsIn K C (.type "type") = true)
  ga : (PySem.W.specialIn K (.ref C) "__getattribute__" = some (some (.builtin "type.__getattribute__")))
  n___len__ : (PySem.W.findIn K (.ref C) "__len__" = some none)
  n___length_hint__ : (PySem.W.findIn K (.ref C) "__length_hint__" = some none)
  n_lengths : (PySem.W.findIn K (.ref C) "lengths" = some none)
theorem S_Weather.cl {K : PySem.W.Frag} {mg : Str → Option Value} {C : Addr} (T : S_Weather K mg C) : Cls K C := ⟨T.pg, T.hd, T.po, T.sa⟩
theorem S_Weather.cr {K : PySem.W.Frag} {mg : Str → Option Value} {C : Addr} (T : S_Weather K mg C) : ClX.CRead K C (.type "type") := ⟨T.rd, T.ga⟩
theorem S_Weather.ct {K : PySem.W.Frag} {mg : Str → Option Value} {C : Addr} (T : S_Weather K mg C) : ClsT K C := ⟨T.cl, T.ha, T.hn, T.ht, T.hm⟩
def B_Weather_init : M Fl :=
    (evSeq (evIf (tOo (tNo (tTr (evV 1))) (tOo (tst (ev2 dLt (evB gMinA [.e (evV 1)]) (vD (.int 1)))) (tst (ev2 dGt (evB gSumA [.e (evV 1)]) (vD (.int 200))))))
    (evRaise1 .BadWeather (evJn [(vD (.str "a weather has 1 to ")), (ev1 dFmt (vD (.int 200))), (vD (.str " hours in runs and spells of at least one hour"))]))
    evNx)
    (evFldS .Weather 0 "lengths" (evB gTup [.e (evV 1)])))
def G_Weather_init : Fn := runB 0 B_Weather_init
def B_Weather_hours : M Fl :=
    (evRet (evB gSumT [.e (ev1 (dFld .Weather 0) (evV 0))]))
def G_Weather_hours : Fn := run0 0 B_Weather_hours
def B_Weather_eq : M Fl :=
    (evRet (vAn (evIsi [(.o .Weather, true)] (evV 1)) (ev2 dEq (ev1 (dFld .Weather 0) (evV 0)) (ev1 (dFld .Weather 0) (evV 1)))))
def G_Weather_eq : Fn := run0 0 B_Weather_eq
def B_f_ends_damp : M Fl :=
    (evRet (ev2 dEq (ev2 dMod (evB gLen [.e (evV 0)]) (vD (.int 2))) (vD (.int 0))))
def G_f_ends_damp : Fn := run0 0 B_f_ends_damp
def B_Weather_add : M Fl :=
    (evSeq (evIf (tst (evCall0 1 G_f_ends_damp [.e (ev1 (dFld .Weather 0) (evV 0))]))
    (evRet (evMk 2 G_Weather_init .Weather [.e (ev2 dCatT (ev1 (dFld .Weather 0) (evV 0)) (ev1 (dFld .Weather 0) (evV 1)))]))
    evNx)
    (evSeq (evAsg 2 (ev2 dAdd (ev2 dIx (ev1 (dFld .Weather 0) (evV 0)) (ev1 dNeg (vD (.int 1)))) (ev2 dIx (ev1 (dFld .Weather 0) (evV 1)) (vD (.int 0)))))
    (evRet (evMk 2 G_Weather_init .Weather [.e (ev2 dCatT (ev2 dCatT (evSl (ev1 (dFld .Weather 0) (evV 0)) none (some (ev1 dNeg (vD (.int 1))))) (evTup [.e (evV 2)])) (evSl (ev1 (dFld .Weather 0) (evV 1)) (some (vD (.int 1))) none))]))))
def G_Weather_add : Fn := runB 1 B_Weather_add
def B_f_lengths_of : M Fl :=
    (evSeq (evAsgC 1 (evLst []))
    (evSeq (evAsg 2 (vD .non))
    (evSeq (evFor (itS (evV 0)) (.n 3)
    (evSeq (evIf (tst (ev2 dEq (evV 3) (evV 2)))
    (evSetI 1 (ev1 dNeg (vD (.int 1))) (ev2 dAdd (look 1 Rv.lfree (ev2 dIx (evV 1) (ev1 dNeg (vD (.int 1))))) (vD (.int 1))))
    (evEx (evBmL 1 fApp [.e (vD (.int 1))])))
    (evAsg 2 (evV 3))))
    (evRet (evM 1)))))
def G_f_lengths_of : Fn := run0 3 B_f_lengths_of
def B_Weather_of_signs : M Fl :=
    (evSeq (evIf (tOo (tNo (tst (ch2 dLe dLe (vD (.int 1)) (evB gLen [.e (evV 0)]) (vD (.int 200))))) (tst (ev2 dNe (ev2 dIx (evV 0) (vD (.int 0))) (vD (.str ".")))))
    (evRaise1 .BadWeather (evJn [(vD (.str "the signs of a weather are 1 to ")), (ev1 dFmt (vD (.int 200))), (vD (.str ", and the first one is dry"))]))
    evNx)
    (evSeq (evIf (tst (ev2 dNe (ev2 dAdd (evCnt (evV 0) (vD (.str "."))) (evCnt (evV 0) (vD (.str "#")))) (evB gLen [.e (evV 0)])))
    (evRaise .BadWeather)
    evNx)
    (evRet (evMk 2 G_Weather_init .Weather [.e (evCall0 1 G_f_lengths_of [.e (evV 0)])]))))
def G_Weather_of_signs : Fn := runB 0 B_Weather_of_signs
def B_Weather_signs : M Fl :=
    (evRet (evJoin (vD (.str "")) (evLc [1, 2] (itET (ev1 (dFld .Weather 0) (evV 0))) (.t [(.n 1), (.n 2)]) (pur true) (ev2 dMulS (ev2 dIx (evTup [.e (vD (.str ".")), .e (vD (.str "#"))]) (ev2 dMod (evV 1) (vD (.int 2)))) (evV 2)))))
def G_Weather_signs : Fn := run0 2 B_Weather_signs
def B_Weather_check_told : M Fl :=
    (evIf (tNo (tst (ch2 dLe dLe (vD (.int 1)) (evV 1) (evMeth 1 G_Weather_hours .Weather (evV 0) []))))
    (evRaise1 .BadHour (evJn [(vD (.str "hour ")), (ev1 dFmt (evV 1)), (vD (.str " is not told"))]))
    evNx)
def G_Weather_check_told : Fn := runB 0 B_Weather_check_told
def B_Weather_is_dry : M Fl :=
    (evSeq (evEx (evMethS 2 G_Weather_check_told .Weather (evV 0) [.e (evV 1)]))
    (evRet (ev2 dEq (ev2 dIx (evMeth 1 G_Weather_signs .Weather (evV 0) []) (ev2 dSub (evV 1) (vD (.int 1)))) (vD (.str ".")))))
def G_Weather_is_dry : Fn := runB 0 B_Weather_is_dry
def B_Weather_first : M Fl :=
    (evSeq (evEx (evMethS 2 G_Weather_check_told .Weather (evV 0) [.e (evV 1)]))
    (evRet (evCall 1 G_Weather_of_signs [.e (evSl (evMeth 1 G_Weather_signs .Weather (evV 0) []) none (some (evV 1)))])))
def G_Weather_first : Fn := runB 0 B_Weather_first
def B_Weather_runs : MG :=
    (gSeq (gP (evAsg 1 (vD (.int 1))))
    (gSeq (gFor (itET (ev1 (dFld .Weather 0) (evV 0))) (.t [(.n 2), (.n 3)])
    (gSeq (gIf (tst (ev2 dEq (ev2 dMod (evV 2) (vD (.int 2))) (vD (.int 0))))
    (gSeq (gY (evTup [.e (evV 1), .e (evV 3)]))
    gNx)
    gNx)
    (gSeq (gP (evAsg 1 (ev2 dAdd (evV 1) (evV 3))))
    gNx)))
    gNx))
def G_Weather_runs : Fn := runG 3 B_Weather_runs
def B_Weather_spells : MG :=
    (gSeq (gP (evAsg 1 (vD (.int 1))))
    (gSeq (gFor (itZ (evSt .ev (ev1 (dFld .Weather 0) (evV 0))) (evSt .od (ev1 (dFld .Weather 0) (evV 0)))) (.t [(.n 2), (.n 3)])
    (gSeq (gY (evTup [.e (ev2 dAdd (evV 1) (evV 2)), .e (evV 3), .e (evV 2)]))
    (gSeq (gP (evAsg 1 (ev2 dAdd (ev2 dAdd (evV 1) (evV 2)) (evV 3))))
    gNx)))
    gNx))
def G_Weather_spells : Fn := runG 3 B_Weather_spells
def B_Weather_back : M Fl :=
    (evSeq (evIf (tst (evCall0 1 G_f_ends_damp [.e (ev1 (dFld .Weather 0) (evV 0))]))
    (evRaise .BadWeather)
    evNx)
    (evRet (evMk 2 G_Weather_init .Weather [.e (evSt .rv (ev1 (dFld .Weather 0) (evV 0)))])))
def G_Weather_back : Fn := runB 0 B_Weather_back
def B_l_cell : M Fl :=
    (evSeq (evIf (tst (ev2 dLt (evV 1) (evB gLen [.e (evV 0)])))
    (evRet (ev2 dIx (evV 0) (evV 1)))
    evNx)
    (evRet (ev2 dAdd (ev2 dMul (vD (.int 977)) (evV 1)) (vD (.int 31)))))
def G_l_cell : Fn := run0 0 B_l_cell
def B_l_pool : M Fl :=
    (evSeq (evIf (tst (ev2 dGe (evV 0) (ev2 dPow (vD (.int 10)) (vD (.int 18)))))
    (evRet (evLst [.e (ev2 dSub (evV 0) (ev2 dPow (vD (.int 10)) (vD (.int 18)))), .e (ev2 dMod (evB gInt [.e (evV 0)]) (vD (.int 1000000007))), .e (vD (.int 0))]))
    evNx)
    (evSeq (evIf (tst (ev2 dLt (evV 0) (vD (.int 0))))
    (evRet (evLst [.e (vD (.int 0)), .e (ev2 dMod (evB gInt [.e (ev2 dSub (vD (.int 1)) (ev2 dMul (vD (.int 2)) (evV 0)))]) (vD (.int 1000000007))), .e (vD (.int 0))]))
    evNx)
    (evRet (evLst [.e (vD (.int 0)), .e (ev2 dMod (evB gInt [.e (ev2 dMul (vD (.int 2)) (evV 0))]) (vD (.int 1000000007))), .e (vD (.int 0))]))))
def G_l_pool : Fn := run0 0 B_l_pool
def B_l_take : M Fl :=
    (evSeq (evSetI 0 (vD (.int 2)) (ev2 dAdd (look 0 Rv.lfree (ev2 dIx (evV 0) (vD (.int 2)))) (vD (.int 1))))
    (evSeq (evIf (tst (ev2 dGt (look 0 Rv.lfree (ev2 dIx (evV 0) (vD (.int 0)))) (vD (.int 1))))
    (evSeq (evAsg 2 (ev2 dMod (evB gInt [.e (look 0 Rv.lfree (ev2 dIx (evV 0) (vD (.int 0))))]) (evV 1)))
    (evSeq (evSetI 0 (vD (.int 0)) (ev2 dDiv (look 0 Rv.lfree (ev2 dIx (evV 0) (vD (.int 0)))) (evV 1)))
    (evRet (evV 2))))
    evNx)
    (evSeq (evAsg 3 (ev2 dMod (evB gInt [.e (ev2 dAdd (ev2 dAdd (look 0 Rv.lfree (ev2 dIx (evV 0) (vD (.int 1)))) (ev2 dMul (vD (.int 48271)) (look 0 Rv.lfree (ev2 dIx (evV 0) (vD (.int 2)))))) (vD (.int 12345)))]) (vD (.int 2147483647))))
    (evSeq (evAsg 3 (ev2 dMod (evB gInt [.e (ev2 dAdd (ev2 dAdd (ev2 dMul (evV 3) (evV 3)) (ev2 dMul (vD (.int 16807)) (look 0 Rv.lfree (ev2 dIx (evV 0) (vD (.int 2)))))) (vD (.int 7)))]) (vD (.int 2147483629))))
    (evSeq (evAsg 3 (ev2 dMod (evB gInt [.e (ev2 dAdd (ev2 dAdd (ev2 dMul (evV 3) (evV 3)) (ev2 dMul (vD (.int 69621)) (look 0 Rv.lfree (ev2 dIx (evV 0) (vD (.int 2)))))) (vD (.int 3)))]) (vD (.int 2147483587))))
    (evRet (ev2 dMod (evB gInt [.e (ev2 dDiv (evV 3) (vD (.int 7)))]) (evV 1))))))))
def G_l_take : Fn := run0 2 B_l_take
def B_l_size : M Fl :=
    (evSeq (evIf (tst (ev2 dEq (evCall0 2 G_l_take [.c 0, .e (vD (.int 8))]) (vD (.int 5))))
    (evRet (ev2 dAdd (vD (.int 1)) (evCall0 2 G_l_take [.c 0, .e (evV 2)])))
    evNx)
    (evRet (ev2 dAdd (vD (.int 1)) (evCall0 2 G_l_take [.c 0, .e (evV 1)]))))
def G_l_size : Fn := run0 0 B_l_size
def B_l_signs : M Fl :=
    (evSeq (evAsg 2 (vD (.str ".")))
    (evSeq (evAsg 3 (evCall0 2 G_l_take [.c 0, .e (vD (.int 3))]))
    (evSeq (evAsg 4 (vD (.bl false)))
    (evSeq (evFor (itR1 (ev2 dSub (evV 1) (vD (.int 1)))) (.n 5)
    (evSeq (evIf (tst (ev2 dEq (evV 3) (vD (.int 0))))
    (evAsg 4 (ev2 dEq (evCall0 2 G_l_take [.c 0, .e (vD (.int 2))]) (vD (.int 1))))
    (evIf (tst (ev2 dEq (evV 3) (vD (.int 1))))
    (evAsg 4 (ev2 dEq (evCall0 2 G_l_take [.c 0, .e (vD (.int 4))]) (vD (.int 1))))
    (evIf (tst (ev2 dEq (evCall0 2 G_l_take [.c 0, .e (vD (.int 4))]) (vD (.int 1))))
    (evAsg 4 (vNo (evV 4)))
    evNx)))
    (evIf (tst (evV 4))
    (evAsg 2 (ev2 dAddS (evV 2) (vD (.str "#"))))
    (evAsg 2 (ev2 dAddS (evV 2) (vD (.str ".")))))))
    (evRet (evV 2))))))
def G_l_signs : Fn := run0 4 B_l_signs
def B_l_lengths : M Fl :=
    (evSeq (evAsgC 1 (evLst [.e (vD (.int 1))]))
    (evSeq (evFor (itR2 (vD (.int 1)) (evB gLen [.e (evV 0)])) (.n 2)
    (evIf (tst (ev2 dEq (ev2 dIx (evV 0) (evV 2)) (ev2 dIx (evV 0) (ev2 dSub (evV 2) (vD (.int 1))))))
    (evSetI 1 (ev1 dNeg (vD (.int 1))) (ev2 dAdd (look 1 Rv.lfree (ev2 dIx (evV 1) (ev1 dNeg (vD (.int 1))))) (vD (.int 1))))
    (evEx (evBmL 1 fApp [.e (vD (.int 1))]))))
    (evRet (evM 1))))
def G_l_lengths : Fn := run0 2 B_l_lengths
def B_l_runs : M Fl :=
    (evSeq (evAsgC 1 (evLst []))
    (evSeq (evFor (itR1 (evB gLen [.e (evV 0)])) (.n 2)
    (evIf (tAn (tst (ev2 dEq (ev2 dIx (evV 0) (evV 2)) (vD (.str ".")))) (tOo (tst (ev2 dEq (evV 2) (vD (.int 0)))) (tst (ev2 dEq (ev2 dIx (evV 0) (ev2 dSub (evV 2) (vD (.int 1)))) (vD (.str "#"))))))
    (evSeq (evAsg 3 (evTxm gFind3 (evV 0) [.e (vD (.str "#")), .e (evV 2)]))
    (evSeq (evIf (tst (ev2 dLt (evV 3) (vD (.int 0))))
    (evAsg 3 (evB gLen [.e (evV 0)]))
    evNx)
    (evEx (evBmL 1 fApp [.e (evTup [.e (ev2 dAdd (evV 2) (vD (.int 1))), .e (ev2 dSub (evV 3) (evV 2))])]))))
    evNx))
    (evRet (evM 1))))
def G_l_runs : Fn := run0 3 B_l_runs
def B_l_spells : M Fl :=
    (evSeq (evAsgC 1 (evLst []))
    (evSeq (evFor (itR2 (vD (.int 1)) (evB gLen [.e (evV 0)])) (.n 2)
    (evIf (tAn (tst (ev2 dEq (ev2 dIx (evV 0) (evV 2)) (vD (.str "#")))) (tst (ev2 dEq (ev2 dIx (evV 0) (ev2 dSub (evV 2) (vD (.int 1)))) (vD (.str ".")))))
    (evSeq (evAsg 3 (evTxm gFind3 (evV 0) [.e (vD (.str ".")), .e (evV 2)]))
    (evSeq (evIf (tst (ev2 dLt (evV 3) (vD (.int 0))))
    (evAsg 3 (evB gLen [.e (evV 0)]))
    evNx)
    (evEx (evBmL 1 fApp [.e (evTup [.e (ev2 dAdd (evV 2) (vD (.int 1))), .e (ev2 dSub (evV 3) (evV 2)), .e (ev2 dSub (ev2 dSub (evV 2) (vD (.int 1))) (evTxm gRfind4 (evV 0) [.e (vD (.str "#")), .e (vD (.int 0)), .e (evV 2)]))])]))))
    evNx))
    (evRet (evM 1))))
def G_l_spells : Fn := run0 3 B_l_spells
def B_l_int : M Fl :=
    (evRet (vAn (evIsi [(.b "int", true)] (evV 0)) (vNo (evIsi [(.b "int", false)] (evV 0)))))
def G_l_int : Fn := run0 0 B_l_int
def B_l_rows : M Fl :=
    (evSeq (evIf (tst (ev2 dNe (evB gLen [.e (evV 0)]) (evB gLen [.e (evV 1)])))
    (evRet (vD (.bl false)))
    evNx)
    (evSeq (evFor (itR1 (evB gLen [.e (evV 1)])) (.n 2)
    (evSeq (evIf (tOo (tNo (tst (evIsi [(.b "tuple", true)] (ev2 dIx (evV 0) (evV 2))))) (tst (ev2 dNe (evB gLen [.e (ev2 dIx (evV 0) (evV 2))]) (evB gLen [.e (ev2 dIx (evV 1) (evV 2))]))))
    (evRet (vD (.bl false)))
    evNx)
    (evFor (itR1 (evB gLen [.e (ev2 dIx (evV 1) (evV 2))])) (.n 3)
    (evIf (tOo (tNo (tst (evCall0 1 G_l_int [.e (ev2 dIx (ev2 dIx (evV 0) (evV 2)) (evV 3))]))) (tst (ev2 dNe (ev2 dIx (ev2 dIx (evV 0) (evV 2)) (evV 3)) (ev2 dIx (ev2 dIx (evV 1) (evV 2)) (evV 3)))))
    (evRet (vD (.bl false)))
    evNx))))
    (evRet (vD (.bl true)))))
def G_l_rows : Fn := run0 2 B_l_rows
def B_l_tells : M Fl :=
    (evSeq (evIf (tOo (tNo (tst (evIsi [(.o .Weather, true)] (evV 0)))) (tNo (tst (evIsi [(.b "tuple", true)] (ev1 (dFld .Weather 0) (evV 0))))))
    (evRet (vD (.bl false)))
    evNx)
    (evSeq (evAsg 2 (evB gTup [.e (evCall0 1 G_l_lengths [.e (evV 1)])]))
    (evSeq (evIf (tNo (tst (evCall0 2 G_l_rows [.e (evLst [.e (ev1 (dFld .Weather 0) (evV 0)), .e (evB gTup [.e (evBc (gLstO .Weather 0) [.e (evV 0)])])]), .e (evLst [.e (evV 2), .e (evV 2)])])))
    (evRet (vD (.bl false)))
    evNx)
    (evSeq (evIf (tOo (tNo (tst (evCall0 1 G_l_int [.e (evMeth 1 G_Weather_hours .Weather (evV 0) [])]))) (tst (ev2 dNe (evMeth 1 G_Weather_hours .Weather (evV 0) []) (evB gLen [.e (evV 1)]))))
    (evRet (vD (.bl false)))
    evNx)
    (evSeq (evAsg 3 (evMeth 2 G_Weather_is_dry .Weather (evV 0) [.e (evB gLen [.e (evV 1)])]))
    (evSeq (evIf (tOo (tNo (tst (evIsi [(.b "bool", true)] (evV 3)))) (tst (ev2 dNe (evV 3) (ev2 dEq (ev2 dIx (evV 1) (ev1 dNeg (vD (.int 1)))) (vD (.str "."))))))
    (evRet (vD (.bl false)))
    evNx)
    (evSeq (evAsg 4 (evMeth 1 G_Weather_signs .Weather (evV 0) []))
    (evRet (vAn (evIsi [(.b "str", true)] (evV 4)) (ev2 dEq (evV 4) (evV 1)))))))))))
def G_l_tells : Fn := run0 3 B_l_tells
def B_l_parts : M Fl :=
    (evSeq (evIf (tNo (tst (evCall0 2 G_l_tells [.e (evV 0), .e (evV 1)])))
    (evRet (vD (.bl false)))
    evNx)
    (evSeq (evAsg 2 (evCall0 1 G_l_runs [.e (evV 1)]))
    (evSeq (evAsg 3 (evCall0 1 G_l_spells [.e (evV 1)]))
    (evSeq (evIf (tOo (tNo (tst (evCall0 2 G_l_rows [.e (evMeth 1 G_Weather_runs .Weather (evV 0) []), .e (evV 2)]))) (tNo (tst (evCall0 2 G_l_rows [.e (evMeth 1 G_Weather_spells .Weather (evV 0) []), .e (evV 3)]))))
    (evRet (vD (.bl false)))
    evNx)
    (evRet (vAn (evCall0 2 G_l_rows [.e (evMeth 1 G_Weather_spells .Weather (evV 0) []), .e (evV 3)]) (evCall0 2 G_l_rows [.e (evMeth 1 G_Weather_runs .Weather (evV 0) []), .e (evV 2)])))))))
def G_l_parts : Fn := run0 2 B_l_parts
def B_l_equals : M Fl :=
    (evSeq (evAsg 3 (evOwn2 2 G_Weather_eq .Weather (evV 0) (evV 1)))
    (evRet (vAn (evIsi [(.b "bool", true)] (evV 3)) (ev2 dEq (evV 3) (evV 2)))))
def G_l_equals : Fn := run0 1 B_l_equals
def B_l_no_weather : M Fl :=
    (evSeq (evAsg 4 (vD (.bl false)))
    (evSeq (evAsg 5 (vD (.bl false)))
    (evSeq (evTryA 7 (evIf (tst (ev2 dEq (evV 3) (vD (.int 0))))
    (evEx (evMethS 1 G_Weather_back .Weather (evV 0) []))
    (evIf (tst (ev2 dEq (evV 3) (vD (.int 1))))
    (evAsg 6 (evOwn2S 2 G_Weather_add .Weather (evV 0) (evV 1)))
    (evIf (tst (ev2 dEq (evV 3) (vD (.int 2))))
    (evSeq (evAsg 6 (evOwn2S 2 G_Weather_add .Weather (evV 0) (evV 1)))
    (evAsg 6 (evOwn2S 2 G_Weather_add .Weather (evV 6) (evV 2))))
    (evSeq (evAsg 6 (evOwn2S 2 G_Weather_add .Weather (evV 1) (evV 2)))
    (evAsg 6 (evOwn2S 2 G_Weather_add .Weather (evV 0) (evV 6))))))) [(.DampError, false), (.BadWeather, true), (.BadHour, false), (.TooLarge, false)]
    (evSeq (evAsg 4 (vD (.bl true)))
    (evSeq (evAsg 5 (vAn (evIsE 7 [(.o .BadWeather, true)]) (evIsE 7 [(.o .BadWeather, true)])))
    (evAsg 5 (vAn (evV 5) (vAn (vNo (evIsE 7 [(.o .BadWeather, false)])) (vNo (evIsE 7 [(.o .BadWeather, false)]))))))))
    (evRet (vAn (evV 4) (evV 5))))))
def G_l_no_weather : Fn := run0 4 B_l_no_weather
def B_l_no_first : M Fl :=
    (evSeq (evAsg 2 (vD (.bl false)))
    (evSeq (evAsg 3 (vD (.bl false)))
    (evSeq (evTryA 4 (evEx (evMethS 2 G_Weather_first .Weather (evV 0) [.e (evV 1)])) [(.DampError, false), (.BadWeather, false), (.BadHour, true), (.TooLarge, false)]
    (evSeq (evAsg 2 (vD (.bl true)))
    (evSeq (evAsg 3 (vAn (evIsE 4 [(.o .BadHour, true)]) (evIsE 4 [(.o .BadHour, true)])))
    (evAsg 3 (vAn (evV 3) (vAn (vNo (evIsE 4 [(.o .BadHour, false)])) (vNo (evIsE 4 [(.o .BadHour, false)]))))))))
    (evRet (vAn (evV 2) (evV 3))))))
def G_l_no_first : Fn := run0 3 B_l_no_first
def B_l_cut : M Fl :=
    (evSeq (evIf (tOo (tst (ev2 dLt (evV 2) (vD (.int 1)))) (tst (ev2 dGt (evV 2) (evB gLen [.e (evV 1)]))))
    (evRet (evCall0 2 G_l_no_first [.e (evV 0), .e (evV 2)]))
    evNx)
    (evSeq (evAsg 3 (evMeth 2 G_Weather_first .Weather (evV 0) [.e (evV 2)]))
    (evSeq (evIf (tOo (tNo (tst (evCall0 2 G_l_tells [.e (evV 3), .e (evSl (evV 1) none (some (evV 2)))]))) (tNo (tst (evIsi [(.b "tuple", true)] (ev1 (dFld .Weather 0) (evV 3))))))
    (evRet (vD (.bl false)))
    evNx)
    (evRet (evCall0 2 G_l_rows [.e (evLst [.e (ev1 (dFld .Weather 0) (evV 3))]), .e (evLst [.e (evCall0 1 G_l_lengths [.e (evSl (evV 1) none (some (evV 2)))])])])))))
def G_l_cut : Fn := run0 1 B_l_cut
def B_l_turns : M Fl :=
    (evSeq (evIf (tst (ev2 dEq (ev2 dIx (evV 1) (ev1 dNeg (vD (.int 1)))) (vD (.str "#"))))
    (evRet (evCall0 4 G_l_no_weather [.e (evV 0), .e (evV 0), .e (evV 0), .e (vD (.int 0))]))
    evNx)
    (evSeq (evAsg 2 (evMeth 1 G_Weather_back .Weather (evV 0) []))
    (evSeq (evIf (tNo (tst (evCall0 2 G_l_parts [.e (evV 2), .e (evJoin (vD (.str "")) (evLc [3] (itR1 (evB gLen [.e (evV 1)])) (.n 3) (pur true) (ev2 dIx (evV 1) (ev2 dSub (ev2 dSub (evB gLen [.e (evV 1)]) (vD (.int 1))) (evV 3)))))])))
    (evRet (vD (.bl false)))
    evNx)
    (evSeq (evIf (tNo (tst (evCall0 3 G_l_equals [.e (evV 2), .e (evMk0 2 G_Weather_init .Weather [.e (evCall0 1 G_l_lengths [.e (evMeth 1 G_Weather_signs .Weather (evV 2) [])])]), .e (vD (.bl true))])))
    (evRet (vD (.bl false)))
    evNx)
    (evSeq (evIf (tOo (tNo (tst (evCall0 3 G_l_equals [.e (evV 2), .e (evV 0), .e (ev2 dEq (evMeth 1 G_Weather_signs .Weather (evV 2) []) (evV 1))]))) (tNo (tst (evCall0 3 G_l_equals [.e (evV 0), .e (evV 2), .e (ev2 dEq (evMeth 1 G_Weather_signs .Weather (evV 2) []) (evV 1))]))))
    (evRet (vD (.bl false)))
    evNx)
    (evRet (vAn (evCall0 2 G_l_tells [.e (evMeth 1 G_Weather_back .Weather (evV 2) []), .e (evV 1)]) (evCall0 3 G_l_equals [.e (evMeth 1 G_Weather_back .Weather (evV 2) []), .e (evV 0), .e (vD (.bl true))]))))))))
def G_l_turns : Fn := run0 2 B_l_turns
def B_l_joins : M Fl :=
    (evSeq (evIf (tst (ev2 dGt (ev2 dAdd (evB gLen [.e (evV 2)]) (evB gLen [.e (evV 3)])) (vD (.int 200))))
    (evRet (evCall0 4 G_l_no_weather [.e (evV 0), .e (evV 1), .e (evV 0), .e (vD (.int 1))]))
    evNx)
    (evSeq (evAsg 5 (evOwn2 2 G_Weather_add .Weather (evV 0) (evV 1)))
    (evSeq (evIf (tOo (tNo (tst (evCall0 2 G_l_parts [.e (evV 5), .e (ev2 dAddS (evV 2) (evV 3))]))) (tNo (tst (evCall0 3 G_l_cut [.e (evV 5), .e (ev2 dAddS (evV 2) (evV 3)), .e (evV 4)]))))
    (evRet (vD (.bl false)))
    evNx)
    (evSeq (evIf (tNo (tst (evCall0 3 G_l_equals [.e (evV 5), .e (evMk0 2 G_Weather_init .Weather [.e (evCall0 1 G_l_lengths [.e (ev2 dAddS (evV 2) (evV 3))])]), .e (vD (.bl true))])))
    (evRet (vD (.bl false)))
    evNx)
    (evRet (evCall0 3 G_l_equals [.e (evMeth 2 G_Weather_first .Weather (evV 5) [.e (evB gLen [.e (evV 2)])]), .e (evV 0), .e (vD (.bl true))]))))))
def G_l_joins : Fn := run0 1 B_l_joins
def B_l_adds : M Fl :=
    (evSeq (evIf (tst (ev2 dGt (ev2 dAdd (evB gLen [.e (evV 2)]) (evB gLen [.e (evV 3)])) (vD (.int 200))))
    (evRet (evCall0 4 G_l_no_weather [.e (evV 0), .e (evV 1), .e (evV 0), .e (vD (.int 1))]))
    evNx)
    (evRet (evCall0 2 G_l_tells [.e (evOwn2 2 G_Weather_add .Weather (evV 0) (evV 1)), .e (ev2 dAddS (evV 2) (evV 3))])))
def G_l_adds : Fn := run0 0 B_l_adds
def B_l_law : M Fl :=
    (evSeq (evAsgC 1 (evCall0 1 G_l_pool [.e (evCall0 2 G_l_cell [.e (evV 0), .e (vD (.int 0))])]))
    (evSeq (evAsg 2 (evCall0 2 G_l_signs [.c 1, .e (evCall0 3 G_l_size [.c 1, .e (vD (.int 40)), .e (vD (.int 120))])]))
    (evSeq (evAsgC 1 (evCall0 1 G_l_pool [.e (evCall0 2 G_l_cell [.e (evV 0), .e (vD (.int 1))])]))
    (evSeq (evIf (tst (ev2 dLt (evCall0 2 G_l_take [.c 1, .e (vD (.int 5))]) (vD (.int 2))))
    (evAsg 3 (evCall0 2 G_l_signs [.c 1, .e (evB gMin2 [.e (vD (.int 200)), .e (ev2 dSub (ev2 dAdd (vD (.int 199)) (evCall0 2 G_l_take [.c 1, .e (vD (.int 4))])) (evB gLen [.e (evV 2)]))])]))
    (evAsg 3 (evCall0 2 G_l_signs [.c 1, .e (evCall0 3 G_l_size [.c 1, .e (vD (.int 40)), .e (vD (.int 120))])])))
    (evSeq (evAsgC 1 (evCall0 1 G_l_pool [.e (evCall0 2 G_l_cell [.e (evV 0), .e (vD (.int 2))])]))
    (evSeq (evAsg 4 (evCall0 2 G_l_signs [.c 1, .e (evCall0 3 G_l_size [.c 1, .e (vD (.int 40)), .e (vD (.int 120))])]))
    (evSeq (evAsgC 1 (evCall0 1 G_l_pool [.e (evCall0 2 G_l_cell [.e (evV 0), .e (vD (.int 3))])]))
    (evSeq (evAsg 5 (ev2 dSub (evCall0 2 G_l_take [.c 1, .e (ev2 dAdd (evB gLen [.e (evV 2)]) (vD (.int 4)))]) (vD (.int 1))))
    (evSeq (evAsg 6 (ev2 dAdd (vD (.int 1)) (evCall0 2 G_l_take [.c 1, .e (ev2 dAdd (evB gLen [.e (evV 2)]) (evB gLen [.e (evV 3)]))])))
    (evSeq (evAsg 7 (evMk0 2 G_Weather_init .Weather [.e (evCall0 1 G_l_lengths [.e (evV 2)])]))
    (evSeq (evAsg 8 (evCall0 1 G_Weather_of_signs [.e (evV 3)]))
    (evSeq (evAsg 9 (evMk0 2 G_Weather_init .Weather [.e (evCall0 1 G_l_lengths [.e (evV 4)])]))
    (evSeq (evIf (tOo (tNo (tst (evCall0 2 G_l_parts [.e (evV 7), .e (evV 2)]))) (tOo (tNo (tst (evCall0 2 G_l_parts [.e (evV 8), .e (evV 3)]))) (tNo (tst (evCall0 2 G_l_parts [.e (evV 9), .e (evV 4)])))))
    (evRet (vD (.bl false)))
    evNx)
    (evSeq (evIf (tOo (tNo (tst (evCall0 2 G_l_turns [.e (evV 7), .e (evV 2)]))) (tOo (tNo (tst (evCall0 2 G_l_turns [.e (evV 8), .e (evV 3)]))) (tNo (tst (evCall0 2 G_l_turns [.e (evV 9), .e (evV 4)])))))
    (evRet (vD (.bl false)))
    evNx)
    (evSeq (evIf (tOo (tNo (tst (evCall0 3 G_l_cut [.e (evV 7), .e (evV 2), .e (vD (.int 0))]))) (tOo (tNo (tst (evCall0 3 G_l_cut [.e (evV 7), .e (evV 2), .e (ev2 dAdd (evB gLen [.e (evV 2)]) (vD (.int 1)))]))) (tNo (tst (evCall0 3 G_l_cut [.e (evV 7), .e (evV 2), .e (evV 5)])))))
    (evRet (vD (.bl false)))
    evNx)
    (evSeq (evIf (tOo (tNo (tst (evCall0 3 G_l_cut [.e (evV 7), .e (evV 2), .e (evB gLen [.e (evV 2)])]))) (tOo (tNo (tst (evCall0 3 G_l_cut [.e (evV 7), .e (evV 2), .e (vD (.int 1))]))) (tNo (tst (evCall0 3 G_l_cut [.e (evV 7), .e (evV 2), .e (ev2 dSub (ev1 dNeg (vD (.int 1))) (evV 6))])))))
    (evRet (vD (.bl false)))
    evNx)
    (evSeq (evIf (tOo (tNo (tst (evCall0 5 G_l_joins [.e (evV 7), .e (evV 8), .e (evV 2), .e (evV 3), .e (evV 6)]))) (tNo (tst (evCall0 4 G_l_adds [.e (evV 8), .e (evV 7), .e (evV 3), .e (evV 2)]))))
    (evRet (vD (.bl false)))
    evNx)
    (evSeq (evIf (tOo (tNo (tst (evCall0 4 G_l_adds [.e (evV 9), .e (evV 7), .e (evV 4), .e (evV 2)]))) (tNo (tst (evCall0 4 G_l_adds [.e (evV 7), .e (evV 7), .e (evV 2), .e (evV 2)]))))
    (evRet (vD (.bl false)))
    evNx)
    (evSeq (evIf (tst (ev2 dGt (ev2 dAdd (ev2 dAdd (evB gLen [.e (evV 2)]) (evB gLen [.e (evV 3)])) (evB gLen [.e (evV 4)])) (vD (.int 200))))
    (evIf (tOo (tNo (tst (evCall0 4 G_l_no_weather [.e (evV 7), .e (evV 8), .e (evV 9), .e (vD (.int 2))]))) (tNo (tst (evCall0 4 G_l_no_weather [.e (evV 7), .e (evV 8), .e (evV 9), .e (vD (.int 3))]))))
    (evRet (vD (.bl false)))
    evNx)
    (evSeq (evAsg 10 (evOwn2 2 G_Weather_add .Weather (evOwn2 2 G_Weather_add .Weather (evV 7) (evV 8)) (evV 9)))
    (evSeq (evAsg 11 (evOwn2 2 G_Weather_add .Weather (evV 7) (evOwn2 2 G_Weather_add .Weather (evV 8) (evV 9))))
    (evSeq (evIf (tOo (tNo (tst (evCall0 2 G_l_tells [.e (evV 10), .e (ev2 dAddS (ev2 dAddS (evV 2) (evV 3)) (evV 4))]))) (tNo (tst (evCall0 2 G_l_tells [.e (evV 11), .e (ev2 dAddS (ev2 dAddS (evV 2) (evV 3)) (evV 4))]))))
    (evRet (vD (.bl false)))
    evNx)
    (evIf (tNo (tst (evCall0 3 G_l_equals [.e (evV 10), .e (evV 11), .e (vD (.bl true))])))
    (evRet (vD (.bl false)))
    evNx)))))
    (evRet (vAn (evCall0 2 G_l_parts [.e (evV 7), .e (evV 2)]) (vAn (evCall0 2 G_l_tells [.e (evV 8), .e (evV 3)]) (evCall0 2 G_l_tells [.e (evV 9), .e (evV 4)])))))))))))))))))))))))
def G_l_law : Fn := run0 11 B_l_law
end DP
namespace DP
open PySem PySem.Spec PyProof.Rows L2 PL
/-- the rules, and the reckoning of slots -/
local macro_rules | `(tactic| walk_at "ys") => `(tactic| try simp (config := { maxSteps := 1000000, dsimp := false }) only [List.length_map, sg_len, sg_app, sg_dot, sg_hash, sg_nil, sg1, ↓Y_pur, ↓Y_fai, ↓Y_bnd, ↓Y_noEr, ↓Y_vD, ↓Y_evV, ↓Y_evF, ↓Y_evM, ↓Y_dat, ↓Y_tst, ↓Y_ev2, ↓Y_ev2c, ↓Y_ev1, ↓Y_seq, ↓Y_evIf, ↓Y_tNo, ↓Y_tAn, ↓Y_tOo, ↓Y_vNo, ↓Y_vAn, ↓Y_vOo, ↓Y_vIf, ↓Y_ch2, ↓Y_ch3, ↓Y_setD, ↓Y_setC, ↓Y_asg, ↓Y_asgC, ↓Y_ret, ↓Y_ex, ↓Y_nx, ↓Y_look, ↓Y_lookE,
  ↓Y_ds0, ↓Y_dsE, ↓Y_dsS, ↓Y_B, ↓Y_Bc, ↓Y_tup, ↓Y_lst, ↓Y_bmL, ↓Y_ixL, ↓Y_LstRg, ↓Y_SrtSt, ↓Y_Sc2, ↓Y_Rng2, ↓Y_asgX, ↓Y_Txm, gFind1, gFind3, gRfind4, ↓Y_setI, ↓Y_as0, ↓Y_asE, ↓Y_asC, ↓Y_callG, ↓Y_call, ↓Y_call0, ↓Y_BestN, ↓Y_st, ↓Y_ownIn, ↓Y_ownNin, ↓Y_callV, ↓Y_CallV, ↓Y_CallV0, ↓Y_CallVS, datas_0, datas_d, List.drop_succ_cons, List.drop_zero, ↓Y_own2, ↓Y_own2S, ↓Y_CallC, ↓Y_CallCS, ↓Y_mkL, ↓Y_callN, ↓Y_CallN, ↓Y_CallN0, ↓Y_mkG, ↓Y_mk, ↓Y_mk0, ↓Y_meth, ↓Y_methS, ↓Y_runB, ↓Y_run0, ↓Y_raise, ↓Y_raise1, ↓Y_raiseP, ↓Y_for, ↓Y_isi, ↓Y_tTr, ↓Y_fldS, ↓Y_asgN, ↓Y_dget, ↓Y_dget2, ↓Y_dput, ↓Y_sortDR, D.key, ↓Y_asgT, ↓Y_asgTt, ↓Y_asgTs0, ↓Y_asgTsC, ↓Y_part0, ↓Y_partS, ↓Y_sl, ↓Y_rev, ↓Y_vNoT, ↓Y_maxD, ↓Y_itO, ↓Y_lc, ↓Y_lc2, ↓Y_tryO, ↓Y_tryA, ↓Y_tryM, ↓Y_pick0, ↓Y_pickC, ↓Y_suiteA, eqL_ints, qe_ii, qe_bb, qe_ss, qe_nn, qe_ni, qe_in, qe_nb, qe_bn, qe_ns, qe_sn, qe_is, qe_si, qe_bs, qe_sb, in_ints, ↓Y_isE, ↓Y_js0, ↓Y_jsC, ↓Y_jn, ne_0, ne_d, ne_u, ne_c, ne_x, dFmt, cs_u, cs_d, cs_o, cs_x, okOwn, List.all_cons, List.all_nil, wipeR, restR, ↓Y_itS, ↓Y_join, ↓Y_xf, ↓Y_itL, ↓Y_itT, ↓Y_itR1, ↓Y_itET, ↓Y_itR3, ↓Y_itZ, ↓Y_itZS, ↓Y_cnt, ↓Y_itEL, ↓Y_itR2,
  List.getElem?_cons_zero, List.getElem?_cons_succ, List.getElem?_nil, List.set_cons_zero, List.set_cons_succ, List.replicate_succ, List.replicate_zero, List.cons_append, List.nil_append, List.append_nil, List.length_cons, List.length_nil, List.map_nil, List.map_cons, List.tail_cons, List.head?_cons, List.head?_nil, Option.getD_some, Option.getD_none, Option.map_some, Option.map_none, Option.bind_some, Option.bind_none, List.take_succ_cons, List.take_zero,
  at_0, at_1, at_2, at_3, at_4, at_5, at_6, at_7, ix_30, ix_31, ix_32, outs, argSl, back, updc, lkS_c, lkS_n, lk1_u, lk1_d, lk1_x, lk1_s, celsOf, fz_l, fz_k, fz_t, fz_lac, fz_cli, fz_wea, fz_rat, fz_ste, fz_web, fz_sky, fz_hab, fz_dia, pu_0, pu_lac, pu_rat, pu_web, pu_hab, ex_if, ex_so, ex_sb, lk_b, lk_bo, lk_ob, lk_o, lk_c, ty_n, ty_b, ty_i, ty_s, ty_t, ty_l, ty_q, ty_o, String.reduceEq, reduceCtorEq, reduceIte, dAdd, dSub, dMul, dDiv, dDivN, dMod, dPow, dNeg, dLt, dLe, dGt, dGe, dIx, dFld, dEq, dNe, dIs, dIsNot, dIsB, dNotB, D.isN, gLen, gInt, gMax2, gMin2, gMax3, gMin3, PL.gTup, PL.gLst, gLstO, D.items, D.litems, D.titems, D.truth, fApp, fClr, Rv.lfree, Rv.lfreeO, plfree, D.lfree, D.lfrees, cCat, dAddS, dMulS, dCatT,
  decide_eq_true_eq, Bool.not_eq_true', decide_eq_false_iff_not, true_and, and_true, if_true, if_false, Bool.false_eq_true, ite_true, ite_false, Bool.and_eq_true, Bool.and_true, Bool.true_and, Nat.reduceAdd, Nat.reduceLeDiff, List.nodup_nil, List.nodup_cons, List.not_mem_nil, not_false_eq_true, and_self])
theorem mOkL {i j : Int} (h : -(2 ^ 64) < i ∧ i < 2 ^ 64) : mulOk i j := .inl h
theorem dOk {j : Int} (h1 : 0 < j) (h2 : j < 1073741824) : divOk j := ⟨h1, .inl h2⟩
/-- a pool: three ints -/
abbrev Po (x y z : Int) : Sl := .cel .par (.lst [.int x, .int y, .int z])
theorem y_cell (ns : List Int) (k : Int) (hk : 0 ≤ k) {K : Rv → List Sl → Prop} (h : ∀ c : Int, K (.d (.int c)) [.dat (.sq (ns.map .int)), .dat (.int k)]) : Y G_l_cell [.dat (.sq (ns.map .int)), .dat (.int k)] K NX := by
  unfold G_l_cell B_l_cell
  walk_at "ys"
  split
  · rename_i c
    try rw [List.length_map] at c
    obtain ⟨n, rfl⟩ := Int.eq_ofNat_of_zero_le hk
    have l : n < ns.length := by omega
    refine ⟨_, ?_, h (ns[n])⟩
    rw [at_lt n (by simpa using l)]
    simp [l]
  · exact ⟨mOkL (by omega), h _⟩
theorem y_pool (c : Int) {K : Rv → List Sl → Prop} (h : ∀ x y z : Int, K (.c (.lst [.int x, .int y, .int z])) [.dat (.int c)]) : Y G_l_pool [.dat (.int c)] K NX := by
  unfold G_l_pool B_l_pool
  walk_at "ys"
  refine ⟨by decide, ?_⟩
  split
  · exact ⟨by decide, by omega, h _ _ _⟩
  · split
    · exact ⟨mOkL (by omega), by omega, h _ _ _⟩
    · exact ⟨mOkL (by omega), by omega, h _ _ _⟩
theorem y_take (x y z s : Int) (h1 : 1 ≤ s) (h2 : s < 1000000000) {K : Rv → List Sl → Prop} (h : ∀ d x' y' z' : Int, 0 ≤ d → d < s → K (.d (.int d)) [Po x' y' z', .dat (.int s)]) : Y G_l_take [Po x y z, .dat (.int s)] K NX := by
  unfold G_l_take B_l_take
  walk_at "ys"
  split
  · exact ⟨by omega, dOk (by omega) (by omega), h _ _ _ _ (Int.emod_nonneg _ (by omega)) (Int.emod_lt_of_pos _ (by omega))⟩
  · refine ⟨mOkL (by omega), by omega, ?_⟩
    generalize e1 : (y + 48271 * (z + 1) + 12345) % 2147483647 = u
    have u1 : 0 ≤ u ∧ u < 2147483647 := by omega
    refine ⟨mOkL (by omega), mOkL (by omega), by omega, ?_⟩
    generalize e2 : (u * u + 16807 * (z + 1) + 7) % 2147483629 = v
    have v1 : 0 ≤ v ∧ v < 2147483629 := by
      rw [← e2]; exact ⟨Int.emod_nonneg _ (by omega), Int.emod_lt_of_pos _ (by omega)⟩
    refine ⟨mOkL (by omega), mOkL (by omega), by omega, dOk (by omega) (by omega), by omega, ?_⟩
    exact h _ _ _ _ (Int.emod_nonneg _ (by omega)) (Int.emod_lt_of_pos _ (by omega))
/-- kinds as data -/
def kd (k : Int × Int) : D := .tup [.int k.1, .int k.2]
def kl (ks : List (Int × Int)) : List D := ks.map kd
def Gd (p n : Int) (ks : List (Int × Int)) : Prop := ∀ k ∈ ks, 1 ≤ k.1 ∧ k.1 ≤ p ∧ 1 ≤ k.2 ∧ k.2 ≤ n
theorem Gd.snoc {p n : Int} {ks : List (Int × Int)} {w g : Int} (h : Gd p n ks) (a : 1 ≤ w) (b : w ≤ p) (c : 1 ≤ g) (d : g ≤ n) : Gd p n (ks ++ [(w, g)]) := by
  intro k hk
  rcases List.mem_append.mp hk with q | q
  · exact h k q
  · simp at q; subst q; exact ⟨a, b, c, d⟩
theorem rng_len (lo : Int) (n : Nat) : (rngD lo n).length = n := by simp [rngD]

/-- the signs that lengths tell, the first ones of the color of place i -/
def unl (i : Nat) : List Int → List Bool
  | [] => []
  | n :: r => List.replicate n.toNat (decide (i % 2 = 1)) ++ unl (i + 1) r
theorem unl_app : ∀ (i : Nat) (a b : List Int), unl i (a ++ b) = unl i a ++ unl (i + a.length) b
  | i, [], b => rfl
  | i, n :: a, b => by
    show List.replicate _ _ ++ unl (i + 1) (a ++ b) = (List.replicate _ _ ++ unl (i + 1) a) ++ _
    rw [unl_app (i + 1) a b, List.append_assoc, List.length_cons, show i + 1 + a.length = i + (a.length + 1) by omega]
theorem unl_len : ∀ (i : Nat) (a : List Int), (∀ n ∈ a, 1 ≤ n) → ((unl i a).length : Int) = a.sum
  | _, [], _ => rfl
  | i, n :: a, h => by
    show ((List.replicate _ _ ++ unl (i + 1) a).length : Int) = _
    have := h n List.mem_cons_self
    have ih := unl_len (i + 1) a fun m hm => h m (List.mem_cons_of_mem _ hm)
    rw [List.length_append, List.length_replicate, List.sum_cons]
    omega
theorem unl_head {i : Nat} {n : Int} {r : List Int} (h : 1 ≤ n) : unl i (n :: r) = decide (i % 2 = 1) :: unl i ((n - 1) :: r) := by
  show List.replicate _ _ ++ _ = _ :: (List.replicate _ _ ++ _)
  rw [show n.toNat = (n - 1).toNat + 1 by omega, List.replicate_succ]
  rfl
theorem par_succ (i : Nat) : decide ((i + 1) % 2 = 1) = !decide (i % 2 = 1) := by
  by_cases h : i % 2 = 1
  · rw [decide_eq_true h, decide_eq_false (by omega)]; rfl
  · rw [decide_eq_false h, decide_eq_true (by omega)]; rfl
/-- what the lengths tell determines them -/
theorem unl_uni : ∀ (k i : Nat) (a b : List Int), a.sum.toNat + b.sum.toNat ≤ k → (∀ n ∈ a, 1 ≤ n) → (∀ n ∈ b, 1 ≤ n) → unl i a = unl i b → a = b
  | k, i, [], [], _, _, _, _ => rfl
  | k, i, [], m :: b, _, _, hb, e => by
    rw [unl_head (hb m List.mem_cons_self)] at e; cases e
  | k, i, n :: a, [], _, ha, _, e => by
    rw [unl_head (ha n List.mem_cons_self)] at e; cases e
  | k, i, n :: a, m :: b, hk, ha, hb, e => by
    have n1 := ha n List.mem_cons_self
    have m1 := hb m List.mem_cons_self
    have sa : 0 ≤ a.sum := by rw [← unl_len 0 a fun x hx => ha x (List.mem_cons_of_mem _ hx)]; omega
    have sb : 0 ≤ b.sum := by rw [← unl_len 0 b fun x hx => hb x (List.mem_cons_of_mem _ hx)]; omega
    rw [List.sum_cons, List.sum_cons] at hk
    rw [unl_head n1, unl_head m1, List.cons.injEq] at e
    have e := e.2
    have step : ∀ {c : Int} {r : List Int}, (∀ x ∈ r, 1 ≤ x) → (unl i (0 :: r)).head? = none ∨ (unl i (0 :: r)).head? = some (!decide (i % 2 = 1)) := fun {c r} hr => by
      show (unl (i + 1) r).head? = none ∨ _ = _
      cases r with
      | nil => exact .inl rfl
      | cons x r => refine .inr ?_; show (unl (i + 1) (x :: r)).head? = _; rw [unl_head (hr x List.mem_cons_self), par_succ]; rfl
    by_cases cn : n = 1
    · subst cn
      by_cases cm : m = 1
      · subst cm
        have e : unl (i + 1) a = unl (i + 1) b := e
        match k, hk with
        | 0, hk => exact absurd hk (by omega)
        | k + 1, hk => rw [unl_uni k (i + 1) a b (by omega) (fun x hx => ha x (List.mem_cons_of_mem _ hx)) (fun x hx => hb x (List.mem_cons_of_mem _ hx)) e]
      · rw [show (1 : Int) - 1 = 0 from rfl, unl_head (n := m - 1) (by omega)] at e
        have z := step (c := 0) fun x hx => ha x (List.mem_cons_of_mem _ hx)
        rw [e] at z
        simp at z
    · by_cases cm : m = 1
      · subst cm
        rw [show (1 : Int) - 1 = 0 from rfl, unl_head (n := n - 1) (by omega)] at e
        have z := step (c := 0) fun x hx => hb x (List.mem_cons_of_mem _ hx)
        rw [← e] at z
        simp at z
      · match k, hk with
        | 0, hk => exact absurd hk (by omega)
        | k + 1, hk =>
          have := unl_uni k i ((n - 1) :: a) ((m - 1) :: b) (by rw [List.sum_cons, List.sum_cons]; omega)
            (fun x hx => by rcases List.mem_cons.mp hx with q | q; omega; exact ha x (List.mem_cons_of_mem _ q)) (fun x hx => by rcases List.mem_cons.mp hx with q | q; omega; exact hb x (List.mem_cons_of_mem _ q)) e
          rw [List.cons.injEq] at this
          rw [this.2, show n = m by omega]
/-- the lengths of signs: bump the first -/
def bump : List Int → List Int | [] => [1] | n :: r => (n + 1) :: r
def lnA (d : Bool) : List Bool → List Int
  | [] => [0]
  | b :: bs => if b = d then bump (lnA d bs) else 0 :: bump (lnA b bs)
def lns (bs : List Bool) : List Int := if bs = [] then [] else lnA false bs
theorem bump_unl {i : Nat} {l : List Int} (h : ∃ n r, l = n :: r ∧ 0 ≤ n) : unl i (bump l) = decide (i % 2 = 1) :: unl i l := by
  obtain ⟨n, r, rfl, h0⟩ := h
  show unl i ((n + 1) :: r) = _
  rw [unl_head (by omega), Int.add_sub_cancel]
theorem lnA_ne (d : Bool) : ∀ bs, ∃ n r, lnA d bs = n :: r ∧ 0 ≤ n ∧ ∀ x ∈ r, 1 ≤ x
  | [] => ⟨0, [], rfl, by omega, fun _ h => by simp at h⟩
  | b :: bs => by
    unfold lnA
    split
    · obtain ⟨n, r, e, h, h2⟩ := lnA_ne d bs
      exact ⟨n + 1, r, by rw [e]; rfl, by omega, h2⟩
    · obtain ⟨n, r, e, h, h2⟩ := lnA_ne b bs
      refine ⟨0, (n + 1) :: r, by rw [e]; rfl, by omega, fun x hx => ?_⟩
      rcases List.mem_cons.mp hx with q | q
      · omega
      · exact h2 x q
theorem lnA_unl : ∀ (bs : List Bool) (d : Bool) (i : Nat), decide (i % 2 = 1) = d → unl i (lnA d bs) = bs
  | [], d, i, _ => rfl
  | b :: bs, d, i, e => by
    unfold lnA
    split
    · rename_i q
      obtain ⟨n, r, e1, h1, _⟩ := lnA_ne d bs
      rw [bump_unl ⟨n, r, e1, h1⟩, lnA_unl bs d i e, e, q]
    · rename_i q
      obtain ⟨n, r, e1, h1, _⟩ := lnA_ne b bs
      show unl (i + 1) (bump _) = _
      have e2 : decide ((i + 1) % 2 = 1) = b := by
        rw [par_succ, e]
        cases b <;> cases d <;> simp_all
      rw [bump_unl ⟨n, r, e1, h1⟩, lnA_unl bs b (i + 1) e2, e2]
/-- signs that begin dry -/
def Dry (bs : List Bool) : Prop := bs.head? = some false
theorem Dry.len {bs : List Bool} (h : Dry bs) : 1 ≤ bs.length := by
  cases bs with
  | nil => cases h
  | cons b bs => simp
theorem Dry.ne {bs : List Bool} (h : Dry bs) : bs ≠ [] := fun e => by subst e; cases h
theorem Dry.app {a b : List Bool} (h : Dry a) : Dry (a ++ b) := by
  cases a with
  | nil => cases h
  | cons x a => exact h
theorem Dry.take {a : List Bool} {n : Nat} (h : Dry a) (hn : 1 ≤ n) : Dry (a.take n) := by
  cases a with
  | nil => cases h
  | cons x a =>
    cases n with
    | zero => omega
    | succ n => exact h
theorem lns_unl {bs : List Bool} (h : Dry bs) : unl 0 (lns bs) = bs := by
  unfold lns
  rw [if_neg h.ne]
  exact lnA_unl bs false 0 rfl
theorem lns_pos {bs : List Bool} (h : Dry bs) : ∀ n ∈ lns bs, 1 ≤ n := by
  unfold lns
  rw [if_neg h.ne]
  cases bs with
  | nil => cases h
  | cons b bs =>
    cases h
    unfold lnA
    rw [if_pos rfl]
    obtain ⟨n, r, e, h1, h2⟩ := lnA_ne false bs
    rw [e]
    intro x hx
    rcases List.mem_cons.mp hx with q | q
    · omega
    · exact h2 x q
theorem lns_sum {bs : List Bool} (h : Dry bs) : (lns bs).sum = bs.length := by
  rw [← unl_len 0 (lns bs) (lns_pos h), lns_unl h]
theorem lns_ne {bs : List Bool} (h : Dry bs) : lns bs ≠ [] := fun e => by
  have := lns_unl h
  rw [e] at this
  exact h.ne this.symm
theorem lns_of {ls : List Int} {bs : List Bool} (hd : Dry bs) (h1 : ∀ n ∈ ls, 1 ≤ n) (h2 : unl 0 ls = bs) : ls = lns bs := by
  subst h2
  exact unl_uni _ 0 _ _ (Nat.le_refl _) h1 (lns_pos hd) (lns_unl hd).symm
theorem lns_inj {a b : List Bool} (ha : Dry a) (hb : Dry b) (e : lns a = lns b) : a = b := by
  rw [← lns_unl ha, ← lns_unl hb, e]
theorem lns_len {bs : List Bool} (h : Dry bs) : (lns bs).length ≤ bs.length := by
  have : ∀ l : List Int, (∀ n ∈ l, 1 ≤ n) → (l.length : Int) ≤ l.sum := by
    intro l
    induction l with
    | nil => intro _; exact Int.le_refl _
    | cons n l ih =>
      intro hp
      have := hp n List.mem_cons_self
      have := ih fun x hx => hp x (List.mem_cons_of_mem _ hx)
      rw [List.length_cons, List.sum_cons]
      omega
  have := this _ (lns_pos h)
  rw [lns_sum h] at this
  omega

/-- a weather as data -/
abbrev We (bs : List Bool) : D := .obj .Weather [.tup ((lns bs).map .int)]
abbrev Ws (bs : List Bool) : D := .str (sg bs)
theorem ix_neg1 {α : Type} {l : List α} {a : α} : atI (l ++ [a]) (-1) = some a := by
  unfold atI ixN
  rw [if_neg (by omega), if_pos (by rw [List.length_append, List.length_singleton]; omega)]
  have e : ((-1 : Int) + ((l ++ [a]).length : Nat)).toNat = l.length := by rw [List.length_append, List.length_singleton]; omega
  rw [e]
  simp
theorem ixN_neg1 {α : Type} {l : List α} {a : α} : ixN (l ++ [a]).length (-1) = some l.length := by
  unfold ixN
  rw [if_neg (by omega), if_pos (by rw [List.length_append, List.length_singleton]; omega)]
  congr 1
  (rw [List.length_append, List.length_singleton])
  omega

theorem ai_l (ls : List Int) : aints (.lst (ls.map D.int)) = some ls := by
  unfold aints
  simp only [D.items, Option.bind_some, D.ints_map]
theorem ai_t (ls : List Int) : aints (.tup (ls.map D.int)) = some ls := by
  unfold aints
  simp only [D.items, Option.bind_some, D.ints_map]
theorem gMinA_of {d : D} {ls : List Int} (h : aints d = some ls) (hne : ls ≠ []) : gMinA [d] = some (.int (minI ls)) := by
  show (aints d).bind _ = _
  rw [h]
  exact if_pos hne
theorem gSumA_of {d : D} {ls : List Int} (h : aints d = some ls) : gSumA [d] = some (.int ls.sum) := by
  show (aints d).map _ = _
  rw [h]
  rfl
theorem y_winit (ls : List Int) (hne : ls ≠ []) (hp : ∀ n ∈ ls, 1 ≤ n) (hs : ls.sum ≤ 200) {K : Rv → List Sl → Prop} {X : XC} (h : K (.d .non) [.cel .par (.obj .Weather [("lengths", .tup (ls.map .int))]), .dat (.lst (ls.map .int))]) : Y G_Weather_init [.cel .par (.obj .Weather []), .dat (.lst (ls.map .int))] K X := by
  unfold G_Weather_init B_Weather_init
  walk_at "ys"
  have e1 := gMinA_of (ai_l ls) hne
  have e2 := gSumA_of (ai_l ls)
  have m1 := hp _ (minI_spec hne).1
  have l1 : (!(ls.map D.int).isEmpty) = true := by cases ls with | nil => exact absurd rfl hne | cons _ _ => rfl
  rw [e1, e2]
  walk_at "ys"
  rw [l1, if_neg (by decide), if_neg (by omega), if_neg (by omega)]
  exact ⟨by omega, h⟩
theorem y_winitT (ls : List Int) (hne : ls ≠ []) (hp : ∀ n ∈ ls, 1 ≤ n) (hs : ls.sum ≤ 200) {K : Rv → List Sl → Prop} {X : XC} (h : K (.d .non) [.cel .par (.obj .Weather [("lengths", .tup (ls.map .int))]), .dat (.tup (ls.map .int))]) : Y G_Weather_init [.cel .par (.obj .Weather []), .dat (.tup (ls.map .int))] K X := by
  unfold G_Weather_init B_Weather_init
  walk_at "ys"
  have e1 := gMinA_of (ai_t ls) hne
  have e2 := gSumA_of (ai_t ls)
  have m1 := hp _ (minI_spec hne).1
  have l1 : (!(ls.map D.int).isEmpty) = true := by cases ls with | nil => exact absurd rfl hne | cons _ _ => rfl
  rw [e1, e2]
  walk_at "ys"
  rw [l1, if_neg (by decide), if_neg (by omega), if_neg (by omega)]
  exact ⟨by omega, h⟩

theorem y_hours (bs : List Bool) (hd : Dry bs) {K : Rv → List Sl → Prop} {X : XC} (h : K (.d (.int bs.length)) [.dat (We bs)]) : Y G_Weather_hours [.dat (We bs)] K X := by
  unfold G_Weather_hours B_Weather_hours
  walk_at "ys"
  have e2 : gSumT [.tup ((lns bs).map D.int)] = some (.int bs.length) := by
    unfold gSumT tints
    simp only [D.titems, Option.bind_some, D.ints_map, Option.map_some, lns_sum hd]
  exact ⟨_, e2, h⟩
theorem unl_last {ls : List Int} {n : Int} (h : 1 ≤ n) : (unl 0 (ls ++ [n])).getLast? = some (decide (ls.length % 2 = 1)) := by
  rw [unl_app, Nat.zero_add]
  have e : unl ls.length [n] = List.replicate (n - 1).toNat (decide (ls.length % 2 = 1)) ++ [decide (ls.length % 2 = 1)] := by
    show List.replicate _ _ ++ [] = _
    rw [List.append_nil, show n.toNat = (n - 1).toNat + 1 by omega, List.replicate_succ']
  rw [e, ← List.append_assoc, List.getLast?_concat]
theorem unl_more {ls : List Int} {n : Int} (h : 0 ≤ n) : unl 0 (ls ++ [n + 1]) = unl 0 (ls ++ [n]) ++ [decide (ls.length % 2 = 1)] := by
  rw [unl_app, unl_app, Nat.zero_add]
  show _ ++ (List.replicate _ _ ++ []) = _ ++ (List.replicate _ _ ++ []) ++ _
  rw [List.append_nil, List.append_nil, show (n + 1).toNat = n.toNat + 1 by omega, List.replicate_succ', List.append_assoc]
theorem unl_new {ls : List Int} : unl 0 (ls ++ [1]) = unl 0 ls ++ [decide (ls.length % 2 = 1)] := by
  rw [unl_app, Nat.zero_add]
  rfl
def lastS (bs : List Bool) : Sl := match bs.getLast? with | none => .dat .non | some b => .dat (.str (sg [b]))
theorem lastS_snoc {bs : List Bool} {b : Bool} : lastS (bs ++ [b]) = .dat (.str (sg [b])) := by
  unfold lastS
  rw [List.getLast?_concat]
theorem take_snoc {α : Type} {l : List α} {i : Nat} (h : i < l.length) : l.take (i + 1) = l.take i ++ [l[i]] := by
  rw [List.take_add_one, List.getElem?_eq_getElem h]
  rfl
theorem y_lengths (bs : List Bool) (hd : Dry bs) (hl : bs.length ≤ 1000) {K : Rv → List Sl → Prop} (h : K (.c (.lst ((lns bs).map .int))) [.dat (Ws bs)]) : Y G_f_lengths_of [.dat (Ws bs)] K NX := by
  unfold G_f_lengths_of B_f_lengths_of
  walk_at "ys"
  refine ⟨_, sg_items bs, ?_⟩
  refine Y_loop (I := fun r ρ => ∃ (i : Nat) (ls : List Int) (s3 : Sl), r = (bs.drop i).map (fun b => .str (sg [b])) ∧ i ≤ bs.length ∧ unl 0 ls = bs.take i ∧ (∀ n ∈ ls, 1 ≤ n) ∧ ρ = [.dat (Ws bs), .cel .own (.lst (ls.map .int)), lastS (bs.take i), s3] ∧ canSet s3 = true)
    ⟨0, [], .un, rfl, Nat.zero_le _, rfl, fun _ h => by simp at h, rfl, rfl⟩ (fun x r ρ => ?_) (fun ρ => ?_)
  · rintro ⟨i, ls, s3, er, il, eu, hp, rfl, c3⟩
    have hi : i < bs.length := by
      rcases Nat.lt_or_ge i bs.length with q | q
      · exact q
      · rw [List.drop_eq_nil_of_le q] at er; cases er
    rw [List.drop_eq_getElem_cons hi, List.map_cons] at er
    cases er
    have hls : (ls.length : Int) ≤ 1000 := by
      have := unl_len 0 ls hp
      rw [eu, List.length_take] at this
      have h2 : ∀ l : List Int, (∀ n ∈ l, 1 ≤ n) → (l.length : Int) ≤ l.sum := by
        intro l
        induction l with
        | nil => intro _; exact Int.le_refl _
        | cons n l ih =>
          intro hp
          have := hp n List.mem_cons_self
          have := ih fun x hx => hp x (List.mem_cons_of_mem _ hx)
          rw [List.length_cons, List.sum_cons]
          omega
      have := h2 ls hp
      omega
    have ends : ∀ (ls' : List Int), unl 0 ls' = bs.take i ++ [bs[i]] → (∀ n ∈ ls', 1 ≤ n) → ∃ (j : Nat) (l : List Int) (s3' : Sl), (bs.drop (i + 1)).map (fun b => D.str (sg [b])) = (bs.drop j).map (fun b => .str (sg [b])) ∧ j ≤ bs.length ∧ unl 0 l = bs.take j ∧ (∀ n ∈ l, 1 ≤ n) ∧ [Sl.dat (Ws bs), .cel .own (.lst (ls'.map .int)), Sl.dat (.str (sg [bs[i]])), .dat (.str (sg [bs[i]]))] = [.dat (Ws bs), .cel .own (.lst (l.map .int)), lastS (bs.take j), s3'] ∧ canSet s3' = true :=
      fun ls' e1 e2 => ⟨i + 1, ls', _, rfl, hi, by rw [take_snoc hi]; exact e1, e2, by rw [take_snoc hi, lastS_snoc], rfl⟩
    rcases List.eq_nil_or_concat ls with e | ⟨init, n, e⟩
    · subst e
      have i0 : i = 0 := by
        have := congrArg List.length eu
        rw [List.length_take] at this
        simp [unl] at this
        omega
      subst i0
      show Y _ [_, _, Sl.dat .non, _] _ _
      walk_at "ys"
      refine ⟨c3, by omega, ?_⟩
      have e0 : bs[0] = false := by
        cases bs with
        | nil => cases hd
        | cons b bs => cases hd; rfl
      exact ends [1] (by show [false] = _; rw [e0]; rfl) (fun n hn => by simp at hn; omega)
    · rw [List.concat_eq_append] at e
      subst e
      have n1 := hp n (by simp)
      have lc : lastS (bs.take i) = .dat (.str (sg [decide (init.length % 2 = 1)])) := by
        unfold lastS
        rw [← eu, unl_last n1]
      rw [lc]
      show Y _ [_, Sl.cel .own (.lst ((init ++ [n]).map .int)), _, _] _ _
      rw [List.map_append, List.map_cons, List.map_nil]
      walk_at "ys"
      refine ⟨c3, ?_⟩
      split
      · rename_i ec
        refine ⟨_, ix_neg1, rfl, _, rfl, _, ixN_neg1, ?_⟩
        rw [List.set_append_right _ _ (Nat.le_refl _), Nat.sub_self]
        show ∃ (i_1 : Nat) (ls : List Int) (s3 : Sl), _ ∧ _ ∧ _ ∧ _ ∧ [_, Sl.cel .own (.lst (init.map .int ++ [.int (n + 1)])), _, _] = _ ∧ _
        rw [show init.map D.int ++ [.int (n + 1)] = (init ++ [n + 1]).map D.int by simp]
        refine ends (init ++ [n + 1]) ?_ fun x hx => ?_
        · rw [unl_more (by omega), eu, ec]
        · rcases List.mem_append.mp hx with q | q
          · exact hp x (List.mem_append_left _ q)
          · simp at q; omega
      · rename_i ec
        refine ⟨by rw [List.length_append, List.length_map, List.length_singleton]; simp at hls; omega, ?_⟩
        rw [show (init.map D.int ++ [D.int n]) ++ [D.int 1] = (init ++ [n] ++ [1]).map D.int by simp]
        refine ends (init ++ [n] ++ [1]) ?_ fun x hx => ?_
        · rw [unl_new, eu, List.length_append, List.length_singleton, par_succ]
          congr 2
          revert ec
          cases bs[i] <;> cases decide (init.length % 2 = 1) <;> simp
        · rcases List.mem_append.mp hx with q | q
          · exact hp x q
          · simp at q; omega
  · rintro ⟨i, ls, s3, er, il, eu, hp, rfl, c3⟩
    have hi : i = bs.length := by
      rcases Nat.lt_or_ge i bs.length with q | q
      · rw [List.drop_eq_getElem_cons q] at er; cases er
      · omega
    subst hi
    rw [List.take_length] at eu
    have e := lns_of hd hp eu
    subst e
    walk_at "ys"
    exact h
theorem y_ofsigns (bs : List Bool) (hd : Dry bs) (hl : bs.length ≤ 200) {K : Rv → List Sl → Prop} {X : XC} (h : K (.c (.obj .Weather [("lengths", .tup ((lns bs).map .int))])) [.dat (Ws bs)]) : Y G_Weather_of_signs [.dat (Ws bs)] K X := by
  have h1 := hd.len
  have hc : bs.count false + bs.count true = bs.length := by
    clear hd hl h h1
    induction bs with
    | nil => rfl
    | cons b bs ih => rw [List.count_cons, List.count_cons, List.length_cons]; cases b <;> simp <;> omega
  have e0 : bs[(0 : Int).toNat]'(by simp; omega) = false := by
    cases bs with
    | nil => cases hd
    | cons b bs => cases hd; rfl
  unfold G_Weather_of_signs B_Weather_of_signs
  walk_at "ys"
  refine ⟨by omega, ?_⟩
  rw [if_pos (by omega), if_neg (by omega), sgx (Int.le_refl 0) (by omega) (by omega), e0]
  walk_at "ys"
  rw [sg_count, sg_count]
  refine ⟨by omega, ?_⟩
  rw [if_neg (by omega)]
  refine y_lengths bs hd (by omega) ?_
  walk_at "ys"
  refine y_winit _ (lns_ne hd) (lns_pos hd) (by rw [lns_sum hd]; omega) ?_
  walk_at "ys"
  exact h
def fsg : D → Option D | .tup [.int i, .int n] => some (.str (sg (List.replicate n.toNat (decide (i % 2 = 1))))) | _ => none
theorem fsg_unl : ∀ (ls : List Int) (i : Nat), (((ls.map D.int).zipIdx i).map fun p => D.tup [.int (p.2 : Int), p.1]).filterMap fsg = (((ls.zipIdx i).map fun p => List.replicate p.1.toNat (decide (p.2 % 2 = 1))).map sg).map D.str
  | [], i => rfl
  | n :: ls, i => by
    rw [List.map_cons, List.zipIdx_cons, List.zipIdx_cons, List.map_cons, List.map_cons, List.map_cons, List.map_cons, List.filterMap_cons, fsg_unl ls (i + 1)]
    show _ :: _ = _
    congr 3
    have : decide ((i : Int) % 2 = 1) = decide (i % 2 = 1) := by
      by_cases h : i % 2 = 1
      · rw [decide_eq_true h, decide_eq_true (by omega)]
      · rw [decide_eq_false h, decide_eq_false (by omega)]
    rw [this]
theorem unl_zip : ∀ (ls : List Int) (i : Nat), ((ls.zipIdx i).map fun p => List.replicate p.1.toNat (decide (p.2 % 2 = 1))).flatten = unl i ls
  | [], i => rfl
  | n :: ls, i => by
    rw [List.zipIdx_cons, List.map_cons, List.flatten_cons, unl_zip ls (i + 1)]
    rfl
theorem mem_sum {l : List Int} (hp : ∀ n ∈ l, 1 ≤ n) : ∀ n ∈ l, n ≤ l.sum := by
  induction l with
  | nil => intro n hn; simp at hn
  | cons a l ih =>
    have h0 : 0 ≤ l.sum := by rw [← unl_len 0 l fun x hx => hp x (List.mem_cons_of_mem _ hx)]; omega
    have h1 := hp a List.mem_cons_self
    intro n hn
    rw [List.sum_cons]
    rcases List.mem_cons.mp hn with q | q
    · omega
    · have := ih (fun x hx => hp x (List.mem_cons_of_mem _ hx)) n q
      omega
theorem enum_mem {xs : List D} {x : D} (h : x ∈ enumD xs) : ∃ (i : Nat) (d : D), x = .tup [.int (i : Int), d] ∧ i < xs.length ∧ d ∈ xs := by
  unfold enumD at h
  (obtain ⟨p, hp, rfl⟩ := List.mem_map.mp h)
  obtain ⟨h1, h2, h3⟩ := List.mem_zipIdx hp
  refine ⟨p.2, p.1, rfl, by omega, ?_⟩
  rw [h3]
  exact List.getElem_mem _
theorem enum_len (xs : List D) : (enumD xs).length = xs.length := by unfold enumD; rw [List.length_map, List.length_zipIdx]
theorem fl_rep1 (b : Bool) (n : Nat) : (List.replicate n [b]).flatten = List.replicate n b := by
  induction n with
  | zero => rfl
  | succ n ih => rw [List.replicate_succ, List.flatten_cons, ih]; rfl
theorem y_signs (bs : List Bool) (hd : Dry bs) (hl : bs.length ≤ 1000) {K : Rv → List Sl → Prop} {X : XC} (h : K (.d (Ws bs)) [.dat (We bs)]) : Y G_Weather_signs [.dat (We bs)] K X := by
  have hsum := lns_sum hd
  have hlen := lns_len hd
  unfold G_Weather_signs B_Weather_signs
  walk_at "ys"
  refine Y_lcGo (f := fsg) (ρ0 := [.dat (We bs), .un, .un]) (P := fun x => ∃ i n : Int, x = .tup [.int i, .int n] ∧ 0 ≤ i ∧ 1 ≤ n ∧ n ≤ 1000) (fun x acc ⟨i, n, e, i0, n1, n2⟩ hl => ?_) _ _ (fun x hx => ?_) ?_ ?_
  · subst e
    walk_at "ys"
    rcases (show i % 2 = 0 ∨ i % 2 = 1 by omega) with e | e
    · rw [e]
      walk_at "ys"
      refine ⟨by omega, ⟨by omega, by omega, by omega⟩, ?_⟩
      rw [sg_rep, fl_rep1]
      show some (D.str (sg (List.replicate n.toNat (decide (i % 2 = 1))))) = _
      (rw [decide_eq_false (by omega)])
    · rw [e]
      walk_at "ys"
      refine ⟨by omega, ⟨by omega, by omega, by omega⟩, ?_⟩
      rw [sg_rep, fl_rep1]
      show some (D.str (sg (List.replicate n.toNat (decide (i % 2 = 1))))) = _
      rw [decide_eq_true e]
  · obtain ⟨i, d, rfl, hi, hd⟩ := enum_mem hx
    obtain ⟨n, hn, rfl⟩ := List.mem_map.mp hd
    have := mem_sum (lns_pos ‹_›) n hn
    have := lns_pos ‹_› n hn
    exact ⟨i, n, rfl, by omega, by omega, by omega⟩
  · rw [enum_len, List.length_map]
    simp
    omega
  · rw [List.nil_append]
    unfold enumD
    rw [fsg_unl]
    walk_at "ys"
    refine ⟨_, ?_, h⟩
    unfold dJoin
    simp only [D.items, Option.bind_some, D.strs_map]
    rw [sg_len, sg_join, unl_zip, lns_unl hd, if_pos]
    rw [List.map_map]
    have e : ((fun (x : Str) => x.length) ∘ sg) = List.length := funext fun x => sg_len x
    rw [e, ← List.length_flatten, unl_zip, lns_unl hd]
    simp
    omega

theorem rngc {lo : Int} {n i : Nat} (h : i < n) : (rngD lo n).drop i = D.int (lo + i) :: (rngD lo n).drop (i + 1) := by
  have l : i < (rngD lo n).length := by rw [rng_len]; exact h
  rw [List.drop_eq_getElem_cons l]
  simp [rngD]
theorem rngc_end {lo : Int} {n i : Nat} (h : n ≤ i) : (rngD lo n).drop i = [] := List.drop_eq_nil_of_le (by rw [rng_len]; exact h)
theorem rngc_lt {lo : Int} {n i : Nat} {x : D} {r : List D} (e : x :: r = (rngD lo n).drop i) : i < n ∧ x = .int (lo + i) ∧ r = (rngD lo n).drop (i + 1) := by
  rcases Nat.lt_or_ge i n with q | q
  · rw [rngc q] at e
    cases e
    exact ⟨q, rfl, rfl⟩
  · rw [rngc_end q] at e
    cases e
theorem rngc_ge {lo : Int} {n i : Nat} (e : [] = (rngD lo n).drop i) : n ≤ i := by
  rcases Nat.lt_or_ge i n with q | q
  · rw [rngc q] at e
    cases e
  · exact q

theorem at_map {α β : Type} {f : α → β} {l : List α} (i : Nat) (h : i < l.length) : atI (l.map f) (i : Int) = some (f l[i]) := by
  rw [at_lt i (by rw [List.length_map]; exact h)]
  simp [h]
theorem pys_ints : ∀ xs : List Int, D.pys (xs.map D.int) = some (xs.map PyData.int)
  | [] => rfl
  | x :: xs => by
    have := pys_ints xs
    rw [List.map_cons, D.pys, this]
    rfl
theorem lay_ints : ∀ xs : List Int, PyData.canLayAll0 (xs.map PyData.int) = true
  | [] => rfl
  | x :: xs => by
    have := lay_ints xs
    rw [List.map_cons, PyData.canLayAll0, this]
    rfl
theorem dep_ints : ∀ xs : List Int, PyData.depthAll (xs.map PyData.int) = 0
  | [] => rfl
  | x :: xs => by
    have := dep_ints xs
    rw [List.map_cons, PyData.depthAll, this]
    rfl
theorem shp_ints (xs : List Int) : SeqAt.shaped (.list (xs.map PyData.int)) = true := by
  have h1 : PyData.canLay0 (.list (xs.map PyData.int)) = true := by rw [PyData.canLay0]; exact lay_ints xs
  have h2 : PyData.depth (.list (xs.map PyData.int)) = 1 := by rw [PyData.depth, dep_ints]
  unfold SeqAt.shaped
  rw [h1, h2]
  rfl
theorem eqv_ints : ∀ xs ys : List Int, PyData.eqvAll (xs.map PyData.int) (ys.map PyData.int) = decide (xs = ys)
  | [], [] => rfl
  | [], _ :: _ => rfl
  | _ :: _, [] => rfl
  | x :: xs, y :: ys => by
    have := eqv_ints xs ys
    rw [List.map_cons, List.map_cons, PyData.eqvAll, this]
    show (x == y && decide (xs = ys)) = _
    (by_cases h1 : x = y <;> by_cases h2 : xs = ys <;> simp [h1, h2])
theorem eqL_ints (xs ys : List Int) : D.eq? (.lst (xs.map D.int)) (.lst (ys.map D.int)) = some (decide (xs = ys)) := by
  have e1 : D.py (.lst (xs.map D.int)) = some (.list (xs.map PyData.int)) := by rw [D.py, pys_ints]; rfl
  have e2 : D.py (.lst (ys.map D.int)) = some (.list (ys.map PyData.int)) := by rw [D.py, pys_ints]; rfl
  have h1 := shp_ints xs
  have h2 := shp_ints ys
  have h3 : PyData.eqv (.list (xs.map PyData.int)) (.list (ys.map PyData.int)) = decide (xs = ys) := by rw [PyData.eqv]; exact eqv_ints xs ys
  show (match D.py (.lst (xs.map D.int)), D.py (.lst (ys.map D.int)) with
    | some x, some y => if SeqAt.shaped x && SeqAt.shaped y then some (PyData.eqv x y) else none
    | _, _ => none) = _
  rw [e1, e2]
  simp [h1, h2, h3]
theorem neL_ints (xs ys : List Int) : dNe (.lst (xs.map D.int)) (.lst (ys.map D.int)) = some (.bl (!decide (xs = ys))) := by
  unfold dNe
  rw [eqL_ints]
  rfl
theorem in_ints (x : Int) (xs : List Int) : dIn (.int x) (.lst (xs.map D.int)) = some (.bl (decide (x ∈ xs))) := by
  unfold dIn dInB
  simp only [D.items, Option.bind_some, D.ints_map, Option.map_some]
  congr 2
  by_cases h : x ∈ xs <;> simp [h]

theorem eqT_ints (xs ys : List Int) : D.eq? (.tup (xs.map D.int)) (.tup (ys.map D.int)) = some (decide (xs = ys)) := by
  have e1 : D.py (.tup (xs.map D.int)) = some (.tuple (xs.map PyData.int)) := by rw [D.py, pys_ints]; rfl
  have e2 : D.py (.tup (ys.map D.int)) = some (.tuple (ys.map PyData.int)) := by rw [D.py, pys_ints]; rfl
  have sh : ∀ zs : List Int, SeqAt.shaped (.tuple (zs.map PyData.int)) = true := fun zs => by
    have h1 : PyData.canLay0 (.tuple (zs.map PyData.int)) = true := by rw [PyData.canLay0]; exact lay_ints zs
    have h2 : PyData.depth (.tuple (zs.map PyData.int)) = 1 := by rw [PyData.depth, dep_ints]
    unfold SeqAt.shaped
    rw [h1, h2]
    rfl
  have h1 := sh xs
  have h2 := sh ys
  have h3 : PyData.eqv (.tuple (xs.map PyData.int)) (.tuple (ys.map PyData.int)) = decide (xs = ys) := by rw [PyData.eqv]; exact eqv_ints xs ys
  show (match D.py (.tup (xs.map D.int)), D.py (.tup (ys.map D.int)) with
    | some x, some y => if SeqAt.shaped x && SeqAt.shaped y then some (PyData.eqv x y) else none
    | _, _ => none) = _
  rw [e1, e2]
  simp [h1, h2, h3]
theorem cut_to {α : Type} (xs : List α) {n : Int} (h0 : 0 ≤ n) : cut xs none (some n) = xs.take n.toNat := by
  unfold cut
  show (xs.drop 0).take ((if n < 0 then _ else min n.toNat xs.length) - 0) = _
  rw [if_neg (by omega), List.drop_zero, Nat.sub_zero]
  rcases Nat.lt_or_ge n.toNat xs.length with q | q
  · rw [Nat.min_eq_left (by omega)]
  · rw [Nat.min_eq_right q, List.take_length, List.take_of_length_le q]

/-- damp at hour h (counted from 1), or not told -/
def dp (bs : List Bool) (h : Int) : Bool := (bs[(h - 1).toNat]?).getD true
theorem sgE {bs : List Bool} {h : Int} (h0 : 1 ≤ h) (h1 : h ≤ bs.length) (hl : bs.length ≤ 16777216) : (if bs.length ≤ 16777216 then Option.map (fun c => D.str { cps := #[c] }) (atI (sg bs).cps.toList (h - 1)) else none) = some (.str (sg [dp bs h])) := by
  rw [sgx (by omega) (by omega) hl]
  unfold dp
  rw [List.getElem?_eq_getElem (by omega)]
  rfl

theorem sl_app (x y : Str) : (x ++ y).length = x.length + y.length := Array.size_append
theorem tp_nat : ∀ n : Fin 1200, (Str.ofString (toString ((n.val : Nat) : Int))).length ≤ 8 := by decide +kernel
theorem tn_nat : ∀ n : Fin 1200, (Str.ofString (toString (-((n.val : Nat) : Int)))).length ≤ 8 := by decide +kernel
theorem ts_len {i : Int} (h1 : -1199 ≤ i) (h2 : i ≤ 1199) : (Str.ofString (toString i)).length ≤ 8 := by
  rcases Int.lt_or_le i 0 with c | c
  · obtain ⟨n, e⟩ := Int.eq_ofNat_of_zero_le (a := -i) (by omega)
    have := tn_nat ⟨n, by omega⟩
    rw [show i = -(n : Int) by omega]
    exact this
  · obtain ⟨n, rfl⟩ := Int.eq_ofNat_of_zero_le c
    exact tp_nat ⟨n, by omega⟩
theorem lg_len {i : Int} (h1 : -1199 ≤ i) (h2 : i ≤ 1199) : i.natAbs.log2 < 1920 := by
  have a : i.natAbs < 2 ^ 11 := by omega
  rcases Nat.eq_zero_or_pos i.natAbs with z | z
  · rw [z]; decide
  · have := (Nat.log2_lt (n := i.natAbs) (k := 11) (by omega)).mpr a
    omega

theorem y_told (bs : List Bool) (hd : Dry bs) (n : Int) (n1 : 1 ≤ n) (n2 : n ≤ bs.length) {K : Rv → List Sl → Prop} {X : XC} (h : K (.d .non) [.dat (We bs), .dat (.int n)]) : Y G_Weather_check_told [.dat (We bs), .dat (.int n)] K X := by
  unfold G_Weather_check_told B_Weather_check_told
  walk_at "ys"
  rw [if_pos n1]
  refine y_hours bs hd ?_
  walk_at "ys"
  rw [if_neg (by omega)]
  exact h
theorem y_first (bs : List Bool) (hd : Dry bs) (hl : bs.length ≤ 200) (n : Int) (n1 : 1 ≤ n) (n2 : n ≤ bs.length) {K : Rv → List Sl → Prop} {X : XC} (h : K (.c (.obj .Weather [("lengths", .tup ((lns (bs.take n.toNat)).map .int))])) [.dat (We bs), .dat (.int n)]) : Y G_Weather_first [.dat (We bs), .dat (.int n)] K X := by
  unfold G_Weather_first B_Weather_first
  walk_at "ys"
  refine y_told bs hd n n1 n2 ?_
  walk_at "ys"
  refine y_signs bs hd (by omega) ?_
  walk_at "ys"
  refine ⟨by omega, ?_⟩
  rw [sg_cut, cut_to _ (by omega)]
  refine y_ofsigns _ (hd.take (by omega)) (by rw [List.length_take]; omega) ?_
  walk_at "ys"
  exact h

theorem unl_par : ∀ (ls : List Int) (i j : Nat), i % 2 = j % 2 → unl i ls = unl j ls
  | [], _, _, _ => rfl
  | n :: r, i, j, h => by
    show List.replicate _ _ ++ unl (i + 1) r = List.replicate _ _ ++ unl (j + 1) r
    rw [h, unl_par r (i + 1) (j + 1) (by omega)]
theorem unl_rev : ∀ (ls : List Int) (i : Nat), (unl i ls).reverse = unl (i + ls.length + 1) ls.reverse
  | [], _ => rfl
  | n :: r, i => by
    show (List.replicate _ _ ++ unl (i + 1) r).reverse = _
    rw [List.reverse_append, List.reverse_replicate, unl_rev r (i + 1), List.reverse_cons, unl_app, List.length_reverse, List.length_cons]
    rw [unl_par r.reverse (i + 1 + r.length + 1) (i + (r.length + 1) + 1) (by omega)]
    congr 1
    show _ = List.replicate _ _ ++ []
    rw [List.append_nil, show (i + (r.length + 1) + 1 + r.length) % 2 = i % 2 by omega]
theorem lns_last {bs : List Bool} (h : Dry bs) : bs.getLast? = some (decide ((lns bs).length % 2 = 0)) := by
  obtain ⟨i, n, e⟩ : ∃ i n, lns bs = i ++ [n] := by
    rcases List.eq_nil_or_concat (lns bs) with e | ⟨i, n, e⟩
    · exact absurd e (lns_ne h)
    · rw [List.concat_eq_append] at e
      exact ⟨i, n, e⟩
  have u := lns_unl h
  have n1 := lns_pos h n (by rw [e]; simp)
  rw [e] at u
  have l := unl_last (ls := i) n1
  rw [u] at l
  rw [l, e, List.length_append, List.length_singleton]
  congr 1
  (exact decide_eq_decide.mpr (by omega))
theorem lns_back {bs : List Bool} (h : Dry bs) (hl : bs.getLast? = some false) : Dry bs.reverse ∧ lns bs.reverse = (lns bs).reverse := by
  have d : Dry bs.reverse := by unfold Dry; rw [List.head?_reverse, hl]
  refine ⟨d, (lns_of d (fun n hn => lns_pos h n (List.mem_reverse.mp hn)) ?_).symm⟩
  have l := lns_last h
  rw [hl] at l
  injection l with l
  have l : ¬ (lns bs).length % 2 = 0 := of_decide_eq_false l.symm
  have r := unl_rev (lns bs) 0
  rw [lns_unl h] at r
  rw [r]
  exact unl_par _ _ _ (by omega)
theorem sum_rev (l : List Int) : l.reverse.sum = l.sum := List.sum_reverse l
theorem y_endsdamp (ls : List Int) {K : Rv → List Sl → Prop} (h : K (.d (.bl (decide (ls.length % 2 = 0)))) [.dat (.tup (ls.map .int))]) : Y G_f_ends_damp [.dat (.tup (ls.map .int))] K NX := by
  unfold G_f_ends_damp B_f_ends_damp
  walk_at "ys"
  have e : decide ((ls.length : Int) % 2 = 0) = decide (ls.length % 2 = 0) := decide_eq_decide.mpr (by omega)
  rw [e]
  exact ⟨by omega, h⟩
theorem y_back (bs : List Bool) (hd : Dry bs) (hl : bs.length ≤ 200) (h0 : bs.getLast? = some false) {K : Rv → List Sl → Prop} {X : XC} (h : K (.c (.obj .Weather [("lengths", .tup ((lns bs.reverse).map .int))])) [.dat (We bs)]) : Y G_Weather_back [.dat (We bs)] K X := by
  have l := lns_last hd
  rw [h0] at l
  injection l with l
  have e := (lns_back hd h0).2
  unfold G_Weather_back B_Weather_back
  walk_at "ys"
  refine y_endsdamp (lns bs) ?_
  walk_at "ys"
  rw [if_neg (of_decide_eq_false l.symm)]
  rw [show StK.rv.ap ((lns bs).map D.int) = (lns bs).reverse.map D.int from (List.map_reverse).symm]
  refine y_winitT _ (fun z => lns_ne hd (List.reverse_eq_nil_iff.mp z)) (fun n hn => lns_pos hd n (List.mem_reverse.mp hn)) (by rw [sum_rev, lns_sum hd]; omega) ?_
  walk_at "ys"
  rw [← e]
  exact h

section
variable {KG : Fl × List D → List Sl → Prop} {X : XC} {ρ : List Sl} {ys : List D}
theorem Y_runG {k : Nat} {m : MG} {ss : List Sl} {K : Rv → List Sl → Prop} (h : Y (m []) (ss ++ List.replicate k .un) (fun r ρ => r.1 = .nx ∧ K (.c (.lst r.2)) (outs ss ρ)) NX) : Y (runG k m) ss K X := by
  obtain ⟨⟨f, out⟩, ρ1, e, e1, h⟩ := h.mk
  obtain rfl : f = .nx := e1
  exact Y.of (by unfold runG; rw [e]) h
theorem Y_gSeq {a b : MG} {J : List D → List Sl → Prop} (h : Y (a ys) ρ (fun r ρ1 => r.1 = .nx ∧ J r.2 ρ1) X) (k : ∀ ys ρ1, J ys ρ1 → Y (b ys) ρ1 KG X) : Y (gSeq a b ys) ρ KG X := by
  unfold gSeq
  rw [Y_bnd]
  refine h.mono (fun r ρ1 q => ?_) fun _ _ _ q => q
  obtain ⟨f, y⟩ := r
  obtain ⟨e, q⟩ := q
  obtain rfl : f = .nx := e
  exact k _ _ q
theorem Y_gP {m : M Fl} (h : Y m ρ (fun f ρ1 => KG (f, ys) ρ1) X) : Y (gP m ys) ρ KG X := by
  unfold gP
  rw [Y_bnd]
  exact h.mono (fun f ρ1 q => by rw [Y_pur]; exact q) fun _ _ _ q => q
theorem Y_gY {e : Ev} (l : ys.length < 16777216) (h : Y (dat e) ρ (fun d ρ1 => KG (.nx, ys ++ [d]) ρ1) X) : Y (gY e ys) ρ KG X := by
  unfold gY
  rw [Y_bnd]
  exact h.mono (fun f ρ1 q => by rw [if_pos l, Y_pur]; exact q) fun _ _ _ q => q
theorem Y_gNx (h : KG (.nx, ys) ρ) : Y (gNx ys) ρ KG X := by
  unfold gNx
  rw [Y_pur]
  exact h
theorem Y_gIf {c : M Bool} {a b : MG} (h : Y c ρ (fun t ρ1 => if t = true then Y (a ys) ρ1 KG X else Y (b ys) ρ1 KG X) X) : Y (gIf c a b ys) ρ KG X := by
  unfold gIf
  rw [Y_bnd]
  exact h.mono (fun t ρ1 q => by cases t <;> exact q) fun _ _ _ q => q
theorem Y_gLoop {tg : Tg} {b : MG} {I : List D → List D → List Sl → Prop} (e : ∀ ys ρ, I [] ys ρ → KG (.nx, ys) ρ) (st : ∀ x r ys ρ, I (x :: r) ys ρ → Y (asgT tg x) ρ (fun f ρ1 => f = .nx ∧ Y (b ys) ρ1 (fun r2 ρ2 => r2.1 = .nx ∧ I r r2.2 ρ2) X) X) : ∀ (xs ys : List D) (ρ : List Sl), I xs ys ρ → Y (gLoop tg b xs ys) ρ KG X
  | [], ys, ρ, h => by
    unfold gLoop
    rw [Y_pur]
    exact e _ _ h
  | x :: r, ys, ρ, h => by
    unfold gLoop
    rw [Y_bnd]
    refine (st x r ys ρ h).mono (fun f ρ1 q => ?_) fun _ _ _ q => q
    obtain ⟨q1, q⟩ := q
    subst q1
    show Y (bnd (b ys) _) ρ1 KG X
    rw [Y_bnd]
    refine q.mono (fun r2 ρ2 q => ?_) fun _ _ _ q => q
    obtain ⟨f2, y2⟩ := r2
    obtain ⟨q1, q⟩ := q
    obtain rfl : f2 = .nx := q1
    exact Y_gLoop e st r y2 ρ2 q
theorem Y_gFor {it : M (List D)} {tg : Tg} {b : MG} {I : List D → List D → List Sl → Prop} (h : Y it ρ (fun xs ρ1 => I xs ys ρ1) X) (st : ∀ x r ys ρ, I (x :: r) ys ρ → Y (asgT tg x) ρ (fun f ρ1 => f = .nx ∧ Y (b ys) ρ1 (fun r2 ρ2 => r2.1 = .nx ∧ I r r2.2 ρ2) X) X) (e : ∀ ys ρ, I [] ys ρ → KG (.nx, ys) ρ) : Y (gFor it tg b ys) ρ KG X := by
  unfold gFor
  rw [Y_bnd]
  exact h.mono (fun xs ρ1 q => Y_gLoop e st xs ys ρ1 q) fun _ _ _ q => q
end

theorem sum_nn : ∀ {l : List Int}, (∀ n ∈ l, 1 ≤ n) → 0 ≤ l.sum
  | [], _ => Int.le_refl _
  | a :: r, h => by
    have h1 := h a List.mem_cons_self
    have h2 := sum_nn fun n hn => h n (List.mem_cons_of_mem _ hn)
    rw [List.sum_cons]
    omega
theorem sum_take (ls : List Int) (hp : ∀ n ∈ ls, 1 ≤ n) (i : Nat) : 0 ≤ (ls.take i).sum ∧ (ls.take i).sum ≤ ls.sum := by
  have e : ls.sum = (ls.take i).sum + (ls.drop i).sum := by rw [← List.sum_append, List.take_append_drop]
  have h1 := sum_nn (l := ls.take i) fun n hn => hp n (List.mem_of_mem_take hn)
  have h2 := sum_nn (l := ls.drop i) fun n hn => hp n (List.mem_of_mem_drop hn)
  omega
/-- the rows of the walk over the runs -/
def rnG : Int → Nat → List Int → List D
  | _, _, [] => []
  | h, i, n :: r => (if i % 2 = 0 then [.tup [.int h, .int n]] else []) ++ rnG (h + n) (i + 1) r
theorem rnG_len : ∀ (ls : List Int) (h : Int) (i : Nat), (rnG h i ls).length ≤ ls.length
  | [], _, _ => Nat.le_refl _
  | n :: r, h, i => by
    have := rnG_len r (h + n) (i + 1)
    unfold rnG
    split <;> simp <;> omega
theorem enum_at (ls : List Int) (i : Nat) (h : i < ls.length) : (enumD (ls.map D.int)).drop i = D.tup [.int (i : Int), .int ls[i]] :: (enumD (ls.map D.int)).drop (i + 1) := by
  unfold enumD
  rw [List.drop_eq_getElem_cons (by simp; exact h)]
  congr 1
  simp
theorem rnG_c (h : Int) (i : Nat) (n : Int) (r : List Int) : rnG h i (n :: r) = (if i % 2 = 0 then [.tup [.int h, .int n]] else []) ++ rnG (h + n) (i + 1) r := rfl
theorem y_runs (bs : List Bool) (hd : Dry bs) (hl : bs.length ≤ 1000) {K : Rv → List Sl → Prop} {X : XC} (h : K (.c (.lst (rnG 1 0 (lns bs)))) [.dat (We bs)]) : Y G_Weather_runs [.dat (We bs)] K X := by
  have hp := lns_pos hd
  have hs := lns_sum hd
  have hll := lns_len hd
  unfold G_Weather_runs B_Weather_runs
  refine Y_runG ?_
  refine Y_gSeq (J := fun ys ρ => ys = [] ∧ ρ = [.dat (We bs), .dat (.int 1), .un, .un]) (Y_gP (by walk_at "ys" <;> exact ⟨rfl, rfl, rfl⟩)) ?_
  rintro _ _ ⟨rfl, rfl⟩
  refine Y_gSeq (J := fun ys ρ => ys = rnG 1 0 (lns bs) ∧ ∃ h s2 s3, ρ = [.dat (We bs), .dat (.int h), s2, s3]) ?_ ?_
  · refine Y_gFor (I := fun r ys ρ => ∃ (i : Nat) (h : Int) (s2 s3 : Sl), i ≤ (lns bs).length ∧ r = (enumD ((lns bs).map D.int)).drop i ∧ canSet s2 = true ∧ canSet s3 = true ∧ ρ = [.dat (We bs), .dat (.int h), s2, s3] ∧ h = 1 + ((lns bs).take i).sum ∧ ys ++ rnG h i ((lns bs).drop i) = rnG 1 0 (lns bs)) ?_ ?_ ?_
    · walk_at "ys"
      exact ⟨0, 1, .un, .un, Nat.zero_le _, rfl, rfl, rfl, rfl, by simp, by simp⟩
    · rintro x r ys ρ ⟨i, h, s2, s3, li, er, c2, c3, rfl, eh, ey⟩
      have lt : i < (lns bs).length := by
        rcases Nat.lt_or_ge i (lns bs).length with q | q
        · exact q
        · rw [List.drop_eq_nil_of_le (by rw [enum_len, List.length_map]; exact q)] at er; cases er
      rw [enum_at _ _ lt] at er
      obtain ⟨rfl, rfl⟩ := List.cons.inj er
      have sb : h ≤ 1001 := by
        have q := sum_take (lns bs) hp i
        omega
      have nb := mem_sum hp _ (List.getElem_mem lt)
      have np := hp _ (List.getElem_mem lt)
      have h1 : 1 ≤ h := by have q := sum_take (lns bs) hp i; omega
      rw [Y_asgTt]
      walk_at "ys"
      rw [c2, c3]
      walk_at "ys"
      refine Y_gSeq (J := fun ys2 ρ => ρ = [.dat (We bs), .dat (.int h), .dat (.int i), .dat (.int (lns bs)[i])] ∧ ys2 ++ rnG (h + (lns bs)[i]) (i + 1) ((lns bs).drop (i + 1)) = rnG 1 0 (lns bs)) ?_ ?_
      · rw [List.drop_eq_getElem_cons lt] at ey
        rw [rnG_c] at ey
        refine Y_gIf ?_
        walk_at "ys"
        refine ⟨by omega, ?_⟩
        by_cases c : i % 2 = 0
        · rw [if_pos (by omega)]
          rw [if_pos c] at ey
          refine Y_gSeq (J := fun ys2 ρ => ρ = [.dat (We bs), .dat (.int h), .dat (.int i), .dat (.int (lns bs)[i])] ∧ ys2 = ys ++ [.tup [.int h, .int (lns bs)[i]]]) (Y_gY (by
            have := congrArg List.length ey
            have := rnG_len (lns bs) 1 0
            simp at *
            omega) ?_) ?_
          · walk_at "ys" <;> exact ⟨rfl, rfl, rfl⟩
          · rintro _ _ ⟨rfl, rfl⟩
            exact Y_gNx ⟨rfl, rfl, by rw [List.append_assoc]; exact ey⟩
        · rw [if_neg (by omega)]
          rw [if_neg c] at ey
          exact Y_gNx ⟨rfl, rfl, ey⟩
      · rintro ys2 _ ⟨rfl, ey2⟩
        refine Y_gSeq (J := fun ys3 ρ => ys3 = ys2 ∧ ρ = [.dat (We bs), .dat (.int (h + (lns bs)[i])), .dat (.int i), .dat (.int (lns bs)[i])]) (Y_gP (by walk_at "ys" <;> exact ⟨rfl, rfl, rfl⟩)) ?_
        rintro _ _ ⟨rfl, rfl⟩
        refine Y_gNx ⟨rfl, i + 1, _, _, _, lt, rfl, rfl, rfl, rfl, ?_, ey2⟩
        rw [take_snoc lt, List.sum_append, List.sum_singleton, eh]
        omega
    · rintro ys ρ ⟨i, h, s2, s3, li, er, c2, c3, rfl, eh, ey⟩
      have e : i = (lns bs).length := by
        have q := congrArg List.length er
        rw [List.length_drop, enum_len, List.length_map] at q
        have q : 0 = (lns bs).length - i := q
        omega
      subst e
      rw [List.drop_length] at ey
      exact ⟨rfl, by rw [← ey]; unfold rnG; rw [List.append_nil], _, _, _, rfl⟩
  · rintro _ _ ⟨rfl, h, s2, s3, rfl⟩
    exact Y_gNx ⟨rfl, by walk_at "ys"; assumption⟩
/-- the rows of the walk over the spells, from an hour on -/
def prs : List Int → List (Int × Int)
  | n :: m :: t => (n, m) :: prs t
  | _ => []
theorem prs_len : ∀ ls : List Int, (prs ls).length ≤ ls.length
  | [] => Nat.le_refl _
  | [_] => by show 0 ≤ 1; omega
  | n :: m :: t => by
    show (prs t).length + 1 ≤ t.length + 1 + 1
    have := prs_len t
    omega
theorem prs_mem : ∀ {ls : List Int} {p : Int × Int}, p ∈ prs ls → p.1 ∈ ls ∧ p.2 ∈ ls
  | n :: m :: t, p, h => by
    (rcases List.mem_cons.mp h with e | h)
    · subst e; exact ⟨List.mem_cons_self, List.mem_cons_of_mem _ List.mem_cons_self⟩
    · obtain ⟨a, b⟩ := prs_mem (ls := t) h
      exact ⟨List.mem_cons_of_mem _ (List.mem_cons_of_mem _ a), List.mem_cons_of_mem _ (List.mem_cons_of_mem _ b)⟩
theorem prs_ev : ∀ ls : List Int, zipD (evs (ls.map D.int)) (ods (ls.map D.int)) = (prs ls).map fun p => .tup [.int p.1, .int p.2]
  | [] => rfl
  | [_] => rfl
  | n :: m :: t => congrArg (D.tup [.int n, .int m] :: ·) (prs_ev t)
def psum (ps : List (Int × Int)) : Int := (ps.map fun p => p.1 + p.2).sum
theorem psum_le : ∀ {ls : List Int}, (∀ n ∈ ls, 1 ≤ n) → psum (prs ls) ≤ ls.sum
  | [], _ => Int.le_refl _
  | [n], h => by
    have := h n List.mem_cons_self
    show (0 : Int) ≤ [n].sum
    rw [List.sum_singleton]; omega
  | n :: m :: t, h => by
    have := psum_le (ls := t) fun x hx => h x (List.mem_cons_of_mem _ (List.mem_cons_of_mem _ hx))
    show n + m + psum (prs t) ≤ _
    rw [List.sum_cons, List.sum_cons]; omega
def slG : Int → List (Int × Int) → List D
  | _, [] => []
  | h, (n, m) :: t => .tup [.int (h + n), .int m, .int n] :: slG (h + n + m) t
theorem slG_len : ∀ (ps : List (Int × Int)) (h : Int), (slG h ps).length = ps.length
  | [], _ => rfl
  | (n, m) :: t, h => congrArg (· + 1) (slG_len t _)
theorem y_spells (bs : List Bool) (hd : Dry bs) (hl : bs.length ≤ 1000) {K : Rv → List Sl → Prop} {X : XC} (h : K (.c (.lst (slG 1 (prs (lns bs))))) [.dat (We bs)]) : Y G_Weather_spells [.dat (We bs)] K X := by
  have hp := lns_pos hd
  have hs := lns_sum hd
  have hll := lns_len hd
  have hpl := prs_len (lns bs)
  have hpp : ∀ p ∈ prs (lns bs), 1 ≤ p.1 ∧ 1 ≤ p.2 := fun p h => ⟨hp _ (prs_mem h).1, hp _ (prs_mem h).2⟩
  have hps := psum_le hp
  unfold G_Weather_spells B_Weather_spells
  refine Y_runG ?_
  refine Y_gSeq (J := fun ys ρ => ys = [] ∧ ρ = [.dat (We bs), .dat (.int 1), .un, .un]) (Y_gP (by walk_at "ys" <;> exact ⟨rfl, rfl, rfl⟩)) ?_
  rintro _ _ ⟨rfl, rfl⟩
  refine Y_gSeq (J := fun ys ρ => ys = slG 1 (prs (lns bs)) ∧ ∃ h s2 s3, ρ = [.dat (We bs), .dat (.int h), s2, s3]) ?_ ?_
  · refine Y_gFor (I := fun r ys ρ => ∃ (ps : List (Int × Int)) (h : Int) (s2 s3 : Sl), r = ps.map (fun p => .tup [.int p.1, .int p.2]) ∧ (∀ p ∈ ps, 1 ≤ p.1 ∧ 1 ≤ p.2) ∧ canSet s2 = true ∧ canSet s3 = true ∧ ρ = [.dat (We bs), .dat (.int h), s2, s3] ∧ 1 ≤ h ∧ h + psum ps ≤ 1001 ∧ ys ++ slG h ps = slG 1 (prs (lns bs))) ?_ ?_ ?_
    · walk_at "ys"
      refine ⟨prs (lns bs), 1, .un, .un, prs_ev _, hpp, rfl, rfl, rfl, by omega, by omega, rfl⟩
    · rintro x r ys ρ ⟨ps, h, s2, s3, er, hq, c2, c3, rfl, h1, h2, ey⟩
      cases ps with
      | nil => cases er
      | cons p t =>
        obtain ⟨n, m⟩ := p
        obtain ⟨rfl, rfl⟩ := List.cons.inj er
        obtain ⟨n1, m1⟩ := hq _ List.mem_cons_self
        have n1 : 1 ≤ n := n1
        have m1 : 1 ≤ m := m1
        have nn : 0 ≤ psum t := by
          have : ∀ ps : List (Int × Int), (∀ p ∈ ps, 1 ≤ p.1 ∧ 1 ≤ p.2) → 0 ≤ psum ps := fun ps => by
            induction ps with
            | nil => exact fun _ => Int.le_refl _
            | cons p t ih =>
              intro h
              have a := h p List.mem_cons_self
              have b := ih fun q hq => h q (List.mem_cons_of_mem _ hq)
              show 0 ≤ p.1 + p.2 + psum t
              omega
          exact this t fun q hq' => hq q (List.mem_cons_of_mem _ hq')
        have h2 : h + (n + m + psum t) ≤ 1001 := h2
        rw [Y_asgTt]
        walk_at "ys"
        rw [c2, c3]
        walk_at "ys"
        refine Y_gSeq (J := fun ys2 ρ => ρ = [.dat (We bs), .dat (.int h), .dat (.int n), .dat (.int m)] ∧ ys2 = ys ++ [.tup [.int (h + n), .int m, .int n]]) (Y_gY (by
            have := congrArg List.length ey
            rw [List.length_append, slG_len, slG_len] at this
            omega) ?_) ?_
        · walk_at "ys" <;> exact ⟨by omega, by omega⟩
        · rintro _ _ ⟨rfl, rfl⟩
          refine Y_gSeq (J := fun ys3 ρ => ys3 = ys ++ [.tup [.int (h + n), .int m, .int n]] ∧ ρ = [.dat (We bs), .dat (.int (h + n + m)), .dat (.int n), .dat (.int m)]) (Y_gP (by walk_at "ys" <;> first | done | exact ⟨by omega, by omega⟩ | exact ⟨rfl, rfl, rfl⟩)) ?_
          rintro _ _ ⟨rfl, rfl⟩
          exact Y_gNx ⟨rfl, t, _, _, _, rfl, fun q hq' => hq q (List.mem_cons_of_mem _ hq'), rfl, rfl, rfl, by omega, by omega, by rw [List.append_assoc]; exact ey⟩
    · rintro ys ρ ⟨ps, h, s2, s3, er, hq, c2, c3, rfl, h1, h2, ey⟩
      cases ps with
      | cons p t => cases er
      | nil => exact ⟨rfl, by rw [← ey]; unfold slG; rw [List.append_nil], _, _, _, rfl⟩
  · rintro _ _ ⟨rfl, h, s2, s3, rfl⟩
    exact Y_gNx ⟨rfl, by walk_at "ys"; assumption⟩

theorem sg_at {bs : List Bool} {c : Bool} {i : Nat} : (sg bs).cps.toList[i]? = some (if c = true then 35 else 46) ↔ bs[i]? = some c := by
  rw [sg_cps, List.getElem?_map]
  cases bs[i]? with
  | none => simp
  | some b => cases b <;> cases c <;> simp
theorem sub_sg {bs : List Bool} {c : Bool} {i : Nat} : (i + (sg [c]).length ≤ (sg bs).length ∧ Builtin.Str.subAt (sg bs) (sg [c]) i = true) ↔ bs[i]? = some c := (StrLaws.subAt_one (sg bs) _ i).trans sg_at
theorem occ_skip (s sub : Str) (hi r : Nat) : ∀ (m lo free : Nat), (∀ i, lo ≤ i → i < lo + m → ¬ (i + sub.length ≤ hi ∧ Builtin.Str.subAt s sub i = true)) → forIn (m := Id) (List.range' lo (m + r)) ((#[] : Array Nat), free) (StrLaws.occBody s sub hi 1) = forIn (m := Id) (List.range' (lo + m) r) ((#[] : Array Nat), free) (StrLaws.occBody s sub hi 1)
  | 0, lo, free, _ => by rw [Nat.zero_add, Nat.add_zero]
  | m + 1, lo, free, h => by
    rw [show m + 1 + r = (m + r) + 1 by omega, List.range'_succ, List.forIn_cons]
    have e : StrLaws.occBody s sub hi 1 lo ((#[] : Array Nat), free) = pure (ForInStep.yield ((#[] : Array Nat), free)) := if_neg fun q => h lo (Nat.le_refl _) (by omega) ⟨q.1.2, q.2⟩
    rw [e, pure_bind]
    show forIn (List.range' (lo + 1) (m + r)) _ _ = _
    rw [occ_skip s sub hi r m (lo + 1) free fun i h1 h2 => h i (by omega) (by omega), show lo + 1 + m = lo + (m + 1) by omega]
theorem occ_full (s sub : Str) (hi : Nat) : ∀ (l : List Nat) (st : Array Nat × Nat), st.1.size = 1 → (forIn (m := Id) l st (StrLaws.occBody s sub hi 1)).run = st
  | [], st, _ => rfl
  | a :: l, st, h => by
    rw [List.forIn_cons]
    have e : StrLaws.occBody s sub hi 1 a st = pure (ForInStep.yield (st.1, st.2)) := if_neg fun q => by have := q.1.1.1; omega
    rw [e, pure_bind]
    exact occ_full s sub hi l st h
theorem find_sg (bs : List Bool) (c : Bool) (k e : Nat) (ke : k ≤ e) (el : e ≤ bs.length) (no : ∀ j, k ≤ j → j < e → bs[j]? = some (!c)) (hat : e < bs.length → bs[e]? = some c) : Txt.find3 (sg bs) (sg [c]) (k : Int) = if e < bs.length then (e : Int) else -1 := by
  unfold Txt.find3
  have ef : PySem.fromIndex (sg bs).length (k : Int) = k := by
    unfold PySem.fromIndex
    rw [if_neg (by omega)]
    omega
  rw [ef, StrLaws.occ_eq, sg_len, show bs.length + 1 - k = (e - k) + (bs.length + 1 - e) by omega]
  rw [occ_skip _ _ _ _ _ _ _ fun i h1 h2 q => by
    have := (sub_sg (bs := bs) (c := c)).mp (by rw [sg_len bs]; exact q)
    rw [no i h1 (by omega)] at this
    revert this
    cases c <;> simp]
  rw [show k + (e - k) = e by omega]
  by_cases l : e < bs.length
  · rw [if_pos l, show bs.length + 1 - e = (bs.length - e) + 1 by omega, List.range'_succ, List.forIn_cons]
    have q := (sub_sg (bs := bs) (c := c)).mpr (hat l)
    rw [sg_len bs] at q
    have e1 : StrLaws.occBody (sg bs) (sg [c]) bs.length 1 e ((#[] : Array Nat), k) = pure (ForInStep.yield ((#[] : Array Nat).push e, e + (sg [c]).length)) := if_pos ⟨⟨⟨by simp, ke⟩, q.1⟩, q.2⟩
    rw [e1, pure_bind]
    show (match (forIn (m := Id) (List.range' (e + 1) (bs.length - e)) ((#[] : Array Nat).push e, e + (sg [c]).length) (StrLaws.occBody (sg bs) (sg [c]) bs.length 1)).run.fst.toList with | k :: _ => (k : Int) | [] => -1) = _
    rw [occ_full _ _ _ _ _ (by simp)]
    rfl
  · rw [if_neg l, show bs.length + 1 - e = 1 + 0 by omega]
    rw [occ_skip _ _ _ 0 1 e k fun i h1 h2 q => by
      have := (sub_sg (bs := bs) (c := c)).mp (by rw [sg_len bs]; exact q)
      rw [List.getElem?_eq_none (by omega)] at this
      cases this]
    rfl
def laBody (s sub : Str) (hi : Nat) (i : Nat) (st : Option Nat) : Id (ForInStep (Option Nat)) := if i + sub.length ≤ hi ∧ Builtin.Str.subAt s sub i = true then pure (ForInStep.yield (some i)) else pure (ForInStep.yield st)
theorem la_eq (s sub : Str) (lo hi : Nat) : Builtin.Str.lastOccurrence s sub lo hi = (forIn (m := Id) (List.range' lo (hi + 1 - lo)) none (laBody s sub hi)).run := by
  unfold Builtin.Str.lastOccurrence laBody
  simp
theorem la_no (s sub : Str) (hi : Nat) : ∀ (m lo : Nat) (st : Option Nat), (∀ i, lo ≤ i → i < lo + m → ¬ (i + sub.length ≤ hi ∧ Builtin.Str.subAt s sub i = true)) → (forIn (m := Id) (List.range' lo m) st (laBody s sub hi)).run = st
  | 0, _, _, _ => rfl
  | m + 1, lo, st, h => by
    (rw [List.range'_succ, List.forIn_cons])
    have e : laBody s sub hi lo st = pure (ForInStep.yield st) := if_neg (h lo (Nat.le_refl _) (by omega))
    rw [e, pure_bind]
    exact la_no s sub hi m (lo + 1) st fun i h1 h2 => h i (by omega) (by omega)
theorem la_last (s sub : Str) (hi r : Nat) : ∀ (m lo : Nat) (st : Option Nat), (lo + m + sub.length ≤ hi ∧ Builtin.Str.subAt s sub (lo + m) = true) → (∀ i, lo + m < i → i < lo + m + 1 + r → ¬ (i + sub.length ≤ hi ∧ Builtin.Str.subAt s sub i = true)) → (forIn (m := Id) (List.range' lo (m + 1 + r)) st (laBody s sub hi)).run = some (lo + m)
  | 0, lo, st, a, h => by
    rw [show 0 + 1 + r = r + 1 by omega, List.range'_succ, List.forIn_cons]
    have e : laBody s sub hi lo st = pure (ForInStep.yield (some lo)) := if_pos a
    rw [e, pure_bind]
    exact la_no s sub hi r (lo + 1) (some lo) fun i h1 h2 => h i (by omega) (by omega)
  | m + 1, lo, st, a, h => by
    rw [show m + 1 + 1 + r = (m + 1 + r) + 1 by omega, List.range'_succ, List.forIn_cons]
    have e : ∃ st', laBody s sub hi lo st = pure (ForInStep.yield st') := by
      unfold laBody
      split
      · exact ⟨_, rfl⟩
      · exact ⟨_, rfl⟩
    obtain ⟨st', e⟩ := e
    rw [e, pure_bind]
    have := la_last s sub hi r m (lo + 1) st' (by rw [show lo + 1 + m = lo + (m + 1) by omega]; exact a) fun i h1 h2 => h i (by omega) (by omega)
    rw [show lo + 1 + m = lo + (m + 1) by omega] at this
    exact this
theorem rfind_sg (bs : List Bool) (k p : Nat) (pk : p ≤ k) (kl : k ≤ bs.length) (no : ∀ j, p ≤ j → j < k → bs[j]? = some false) (hat : 0 < p → bs[p - 1]? = some true) : Txt.rfindIn (sg bs) (sg [true]) 0 (k : Int) = (p : Int) - 1 := by
  unfold Txt.rfindIn
  have e0 : PySem.fromIndex (sg bs).length 0 = 0 := by
    unfold PySem.fromIndex
    rw [if_neg (by omega)]; rfl
  have e1 : PySem.toIndexW (sg bs).length (k : Int) = k := by
    unfold PySem.toIndexW
    rw [if_neg (by omega), sg_len]
    omega
  have l1 : (sg [true]).length = 1 := sg_len _
  have nom : ∀ i, p ≤ i → ¬ (i + (sg [true]).length ≤ k ∧ Builtin.Str.subAt (sg bs) (sg [true]) i = true) := fun i h1 q => by
    have h2 := q.1
    rw [l1] at h2
    have := (sub_sg (bs := bs) (c := true) (i := i)).mp ⟨by rw [l1, sg_len]; omega, q.2⟩
    rw [no i h1 (by omega)] at this
    cases this
  rw [e0, e1, la_eq]
  by_cases h : 0 < p
  · rw [show k + 1 - 0 = (p - 1) + 1 + (k + 1 - p) by omega]
    have q := (sub_sg (bs := bs) (c := true)).mpr (hat h)
    rw [la_last _ _ _ _ (p - 1) 0 none ⟨by rw [l1]; omega, by rw [Nat.zero_add]; exact q.2⟩ fun i h1 h2 => nom i (by omega)]
    show ((0 + (p - 1) : Nat) : Int) = _
    omega
  · obtain rfl : p = 0 := by omega
    rw [la_no _ _ _ _ 0 none fun i h1 h2 => nom i h1]
    rfl
/-- the sign of an hour, by the lengths -/
theorem unl_at : ∀ (ls : List Int) (o i : Nat) (j : Nat) (hp : ∀ n ∈ ls, 1 ≤ n) (h : i < ls.length), (ls.take i).sum ≤ j → (j : Int) < (ls.take i).sum + ls[i] → (unl o ls)[j]? = some (decide ((o + i) % 2 = 1))
  | n :: r, o, 0, j, hp, h, h1, h2 => by
    have n1 := hp n List.mem_cons_self
    have h2 : (j : Int) < 0 + n := h2
    show (List.replicate n.toNat (decide (o % 2 = 1)) ++ unl (o + 1) r)[j]? = _
    rw [List.getElem?_append_left (by rw [List.length_replicate]; omega), List.getElem?_replicate, if_pos (by omega)]
    rfl
  | n :: r, o, i + 1, j, hp, h, h1, h2 => by
    have n1 := hp n List.mem_cons_self
    have nn := sum_take r (fun x hx => hp x (List.mem_cons_of_mem _ hx)) i
    rw [List.take_succ_cons, List.sum_cons] at h1 h2
    have h2 : (j : Int) < n + (r.take i).sum + r[i]'(by simpa using h) := h2
    show (List.replicate n.toNat (decide (o % 2 = 1)) ++ unl (o + 1) r)[j]? = _
    rw [List.getElem?_append_right (by rw [List.length_replicate]; omega), List.length_replicate]
    rw [unl_at r (o + 1) i (j - n.toNat) (fun x hx => hp x (List.mem_cons_of_mem _ hx)) (by simpa using h) (by omega) (by omega)]
    rw [show o + 1 + i = o + (i + 1) by omega]
theorem sgD {bs : List Bool} {i : Int} (h0 : 0 ≤ i) (h1 : i < bs.length) (hl : bs.length ≤ 16777216) : (if bs.length ≤ 16777216 then Option.map (fun c => D.str { cps := #[c] }) (atI (sg bs).cps.toList i) else none) = some (.str (sg [dp bs (i + 1)])) := by
  have := sgE (bs := bs) (h := i + 1) (by omega) (by omega) hl
  rw [show i + 1 - 1 = i by omega] at this
  exact this
section
variable {bs : List Bool} (hd : Dry bs)
include hd
theorem bs_at {i j : Nat} (h : i < (lns bs).length) (h1 : ((lns bs).take i).sum ≤ j) (h2 : (j : Int) < ((lns bs).take i).sum + (lns bs)[i]) : bs[j]? = some (decide (i % 2 = 1)) := by
  have := unl_at (lns bs) 0 i j (lns_pos hd) h h1 h2
  rw [lns_unl hd, Nat.zero_add] at this
  exact this
theorem dp_at {i : Nat} {j : Int} (h : i < (lns bs).length) (h1 : ((lns bs).take i).sum < j) (h2 : j ≤ ((lns bs).take i).sum + (lns bs)[i]) : dp bs j = decide (i % 2 = 1) := by
  have nn := sum_take (lns bs) (lns_pos hd) i
  unfold dp
  rw [bs_at hd h (j := (j - 1).toNat) (by omega) (by omega)]
  rfl
theorem take_end {i : Nat} (h : i < (lns bs).length) : ((lns bs).take (i + 1)).sum = ((lns bs).take i).sum + (lns bs)[i] := by
  rw [take_snoc h, List.sum_append, List.sum_singleton]
theorem sum_lt {i : Nat} : ((lns bs).take i).sum < bs.length ↔ i < (lns bs).length := by
  constructor
  · intro h
    refine Classical.byContradiction fun q => ?_
    rw [List.take_of_length_le (by omega), lns_sum hd] at h
    omega
  · intro h
    have := take_end hd h
    have p := lns_pos hd _ (List.getElem_mem h)
    have q := sum_take (lns bs) (lns_pos hd) (i + 1)
    rw [lns_sum hd] at q
    omega
end

theorem y_lruns (bs : List Bool) (hd : Dry bs) (hl : bs.length ≤ 1000) {K : Rv → List Sl → Prop} (h : K (.c (.lst (rnG 1 0 (lns bs)))) [.dat (Ws bs)]) : Y G_l_runs [.dat (Ws bs)] K NX := by
  have hp := lns_pos hd
  have hll := lns_len hd
  unfold G_l_runs B_l_runs
  walk_at "ys"
  refine ⟨by omega, by omega, ?_⟩
  refine Y_loop (I := fun r ρ => ∃ (k i : Nat) (acc : List D) (s2 s3 : Sl), k ≤ bs.length ∧ r = (rngD 0 bs.length).drop k ∧ i ≤ (lns bs).length ∧ (k : Int) ≤ ((lns bs).take i).sum ∧ (k = 0 → i = 0) ∧ (0 < k → 0 < i ∧ ((lns bs).take (i - 1)).sum < k) ∧ acc ++ rnG (((lns bs).take i).sum + 1) i ((lns bs).drop i) = rnG 1 0 (lns bs) ∧ ρ = [.dat (Ws bs), .cel .own (.lst acc), s2, s3] ∧ canSet s2 = true ∧ canSet s3 = true)
    ⟨0, 0, [], .un, .un, Nat.zero_le _, rfl, Nat.zero_le _, by simp, fun _ => rfl, fun h => absurd h (by omega), by simp, rfl, rfl, rfl⟩ (fun x r ρ => ?_) (fun ρ => ?_)
  · rintro ⟨k, i, acc, s2, s3, kl, er, il, ks, k0, kp, ea, rfl, c2, c3⟩
    obtain ⟨hk, rfl, rfl⟩ := rngc_lt er
    rw [show (0 : Int) + (k : Int) = k by omega]
    have e1 := sgD (bs := bs) (i := (k : Int)) (by omega) (by omega) (by omega)
    walk_at "ys"
    refine ⟨c2, ?_⟩
    rw [e1]
    walk_at "ys"
    by_cases c : ((lns bs).take i).sum = k
    · -- a block begins
      have hi : i < (lns bs).length := (sum_lt hd).mp (by omega)
      have ni := hp _ (List.getElem_mem hi)
      have te := take_end hd hi
      have tl := sum_take (lns bs) hp (i + 1)
      rw [lns_sum hd] at tl
      have d1 : dp bs ((k : Int) + 1) = decide (i % 2 = 1) := dp_at hd hi (by omega) (by omega)
      rw [d1]
      rw [List.drop_eq_getElem_cons hi, rnG_c] at ea
      have fin : ∀ (acc' : List D) (s3' : Sl), canSet s3' = true → acc' = acc ++ (if i % 2 = 0 then [.tup [.int (((lns bs).take i).sum + 1), .int (lns bs)[i]]] else []) → ∃ (k' i : Nat) (acc : List D) (s2 s3 : Sl), k' ≤ bs.length ∧ (rngD 0 bs.length).drop (k + 1) = (rngD 0 bs.length).drop k' ∧ i ≤ (lns bs).length ∧ (k' : Int) ≤ ((lns bs).take i).sum ∧ (k' = 0 → i = 0) ∧ (0 < k' → 0 < i ∧ ((lns bs).take (i - 1)).sum < k') ∧ acc ++ rnG (((lns bs).take i).sum + 1) i ((lns bs).drop i) = rnG 1 0 (lns bs) ∧ [Sl.dat (Ws bs), .cel .own (.lst acc'), .dat (.int k), s3'] = [.dat (Ws bs), .cel .own (.lst acc), s2, s3] ∧ canSet s2 = true ∧ canSet s3 = true := fun acc' s3' c3' e => by
        refine ⟨k + 1, i + 1, acc', _, s3', hk, rfl, hi, by omega, fun z => by omega, fun _ => ⟨by omega, by rw [Nat.add_sub_cancel]; omega⟩, ?_, rfl, rfl, c3'⟩
        rw [e, List.append_assoc, te, ← ea]
        congr 2
        rw [show ((lns bs).take i).sum + (lns bs)[i] + 1 = ((lns bs).take i).sum + 1 + (lns bs)[i] by omega]
      by_cases ci : i % 2 = 0
      · have ne : ¬ i % 2 = 1 := by omega
        rw [decide_eq_false ne, if_pos rfl]
        rw [if_pos ci] at fin ea
        have ff := find_sg bs true k (k + (lns bs)[i].toNat) (by omega) (by omega) (fun j j1 j2 => by rw [bs_at hd hi (j := j) (by omega) (by omega), decide_eq_false ne]; rfl) (fun l => by
          have hi2 : i + 1 < (lns bs).length := (sum_lt hd).mp (by omega)
          have n2 := hp _ (List.getElem_mem hi2)
          rw [bs_at hd hi2 (j := k + (lns bs)[i].toNat) (by omega) (by omega), decide_eq_true (by omega)])
        have la : acc.length < 16777216 := by
          have q := congrArg List.length ea
          have q2 := rnG_len (lns bs) 1 0
          simp at q
          omega
        have stp : ∀ (v : Int), v = k + (lns bs)[i] → acc ++ [D.tup [.int ((k : Int) + 1), .int (v - k)]] = acc ++ [.tup [.int (((lns bs).take i).sum + 1), .int (lns bs)[i]]] := fun v e => by
          rw [e, c, show (k : Int) + (lns bs)[i] - k = (lns bs)[i] by omega]
        by_cases kz : k = 0
        · rw [if_pos (by omega), ff]
          refine ⟨c3, ?_⟩
          by_cases l : k + (lns bs)[i].toNat < bs.length
          · rw [if_pos l, if_neg (by omega)]
            exact ⟨la, fin _ _ rfl (stp _ (by omega))⟩
          · rw [if_neg l, if_pos (by omega)]
            exact ⟨by omega, la, fin _ _ rfl (stp _ (by omega))⟩
        · rw [if_neg (by omega)]
          have e2 := sgD (bs := bs) (i := (k : Int) - 1) (by omega) (by omega) (by omega)
          obtain ⟨i0, kp⟩ := kp (by omega)
          have te0 := take_end hd (i := i - 1) (by omega)
          rw [show i - 1 + 1 = i by omega] at te0
          have d2 : dp bs ((k : Int) - 1 + 1) = true := (dp_at hd (i := i - 1) (by omega) (by omega) (by omega)).trans (decide_eq_true (by omega))
          rw [e2, d2]
          walk_at "ys"
          rw [ff]
          refine ⟨c3, ?_⟩
          by_cases l : k + (lns bs)[i].toNat < bs.length
          · rw [if_pos l, if_neg (by omega)]
            exact ⟨la, fin _ _ rfl (stp _ (by omega))⟩
          · rw [if_neg l, if_pos (by omega)]
            exact ⟨by omega, la, fin _ _ rfl (stp _ (by omega))⟩
      · rw [decide_eq_true (by omega : i % 2 = 1), if_neg (by decide)]
        exact fin acc s3 c3 (by rw [if_neg ci, List.append_nil])
    · -- amid a block
      have kz : k ≠ 0 := fun z => by
        subst z
        rw [k0 rfl] at c
        exact c rfl
      obtain ⟨i0, kp⟩ := kp (by omega)
      have te0 := take_end hd (i := i - 1) (by omega)
      rw [show i - 1 + 1 = i by omega] at te0
      have d1 : dp bs ((k : Int) + 1) = decide ((i - 1) % 2 = 1) := dp_at hd (by omega) (by omega) (by omega)
      have fin : ∃ (k' i : Nat) (acc_1 : List D) (s2 s3_1 : Sl), k' ≤ bs.length ∧ (rngD 0 bs.length).drop (k + 1) = (rngD 0 bs.length).drop k' ∧ i ≤ (lns bs).length ∧ (k' : Int) ≤ ((lns bs).take i).sum ∧ (k' = 0 → i = 0) ∧ (0 < k' → 0 < i ∧ ((lns bs).take (i - 1)).sum < k') ∧ acc_1 ++ rnG (((lns bs).take i).sum + 1) i ((lns bs).drop i) = rnG 1 0 (lns bs) ∧ [Sl.dat (Ws bs), .cel .own (.lst acc), .dat (.int k), s3] = [.dat (Ws bs), .cel .own (.lst acc_1), s2, s3_1] ∧ canSet s2 = true ∧ canSet s3_1 = true :=
        ⟨k + 1, i, acc, _, s3, hk, rfl, il, by omega, fun z => by omega, fun _ => ⟨i0, by omega⟩, ea, rfl, rfl, c3⟩
      rw [d1]
      by_cases ci : (i - 1) % 2 = 1
      · rw [decide_eq_true ci, if_neg (by decide)]
        exact fin
      · rw [decide_eq_false ci, if_pos rfl, if_neg (by omega)]
        have e2 := sgD (bs := bs) (i := (k : Int) - 1) (by omega) (by omega) (by omega)
        have d2 : dp bs ((k : Int) - 1 + 1) = false := (dp_at hd (i := i - 1) (by omega) (by omega) (by omega)).trans (decide_eq_false ci)
        rw [e2, d2]
        walk_at "ys"
        exact fin
  · rintro ⟨k, i, acc, s2, s3, kl, er, il, ks, k0, kp, ea, rfl, c2, c3⟩
    have e : k = bs.length := by
      have q := rngc_ge er
      omega
    have ei : (lns bs).length ≤ i := by
      refine Classical.byContradiction fun q => ?_
      have := (sum_lt hd (i := i)).mpr (by omega)
      omega
    rw [List.drop_eq_nil_of_le ei] at ea
    walk_at "ys"
    have ea : acc ++ [] = _ := ea
    rw [List.append_nil] at ea
    rw [ea]
    exact h

/-- the same rows, length by length -/
def spN : Int → Nat → Int → List Int → List D
  | _, _, _, [] => []
  | h, i, p, n :: r => (if i % 2 = 1 then [.tup [.int h, .int n, .int p]] else []) ++ spN (h + n) (i + 1) n r
theorem spN_c (h : Int) (i : Nat) (p n : Int) (r : List Int) : spN h i p (n :: r) = (if i % 2 = 1 then [.tup [.int h, .int n, .int p]] else []) ++ spN (h + n) (i + 1) n r := rfl
theorem spN_G : ∀ (ls : List Int) (h : Int) (i : Nat) (p : Int), i % 2 = 0 → spN h i p ls = slG h (prs ls)
  | [], _, _, _, _ => rfl
  | [n], h, i, p, e => by
    rw [spN_c, if_neg (by omega)]; rfl
  | n :: m :: t, h, i, p, e => by
    rw [spN_c, if_neg (by omega), spN_c, if_pos (by omega), spN_G t _ _ _ (by omega)]
    rfl
theorem spN_len : ∀ (ls : List Int) (h : Int) (i : Nat) (p : Int), (spN h i p ls).length ≤ ls.length
  | [], _, _, _ => Nat.le_refl _
  | n :: r, h, i, p => by
    have := spN_len r (h + n) (i + 1) n
    rw [spN_c]
    split <;> simp <;> omega
theorem y_lspells (bs : List Bool) (hd : Dry bs) (hl : bs.length ≤ 1000) {K : Rv → List Sl → Prop} (h : K (.c (.lst (slG 1 (prs (lns bs))))) [.dat (Ws bs)]) : Y G_l_spells [.dat (Ws bs)] K NX := by
  rw [← spN_G _ _ 0 0 rfl] at h
  have hp := lns_pos hd
  have hll := lns_len hd
  have hd1 := hd.len
  have hl0 : 0 < (lns bs).length := (sum_lt hd (i := 0)).mp (by show (0 : Int) < _; omega)
  unfold G_l_spells B_l_spells
  walk_at "ys"
  refine ⟨by omega, by omega, ?_⟩
  refine Y_loop (I := fun r ρ => ∃ (m i : Nat) (acc : List D) (s2 s3 : Sl), m + 1 ≤ bs.length ∧ r = (rngD 1 ((bs.length : Int) - 1).toNat).drop m ∧ i < (lns bs).length ∧ ((lns bs).take i).sum < (m : Int) + 1 ∧ (m : Int) + 1 ≤ ((lns bs).take (i + 1)).sum ∧ acc ++ spN (((lns bs).take (i + 1)).sum + 1) (i + 1) ((lns bs)[i]?.getD 0) ((lns bs).drop (i + 1)) = spN 1 0 0 (lns bs) ∧ ρ = [.dat (Ws bs), .cel .own (.lst acc), s2, s3] ∧ canSet s2 = true ∧ canSet s3 = true)
    ⟨0, 0, [], .un, .un, hd1, rfl, hl0, by show (0 : Int) < _; omega, ?_, ?_, rfl, rfl, rfl⟩ (fun x r ρ => ?_) (fun ρ => ?_)
  · have := take_end hd hl0
    have := hp _ (List.getElem_mem hl0)
    have z : ((lns bs).take 0).sum = 0 := rfl
    omega
  · have e : lns bs = (lns bs)[0] :: (lns bs).drop 1 := by
      have := List.drop_eq_getElem_cons hl0
      rw [List.drop_zero] at this
      exact this
    have te := take_end hd hl0
    rw [List.nil_append, List.getElem?_eq_getElem hl0]
    conv => rhs; rw [e, spN_c]
    have z : ((lns bs).take 0).sum = 0 := rfl
    have z1 : (0 : Int) + (lns bs)[0] + (1 : Int) = (1 : Int) + (lns bs)[0] := by omega
    rw [te, z, z1]
    rfl
  · rintro ⟨m, i, acc, s2, s3, kl, er, il, ks, ke, ea, rfl, c2, c3⟩
    obtain ⟨hk, rfl, rfl⟩ := rngc_lt er
    have hm : m + 1 < bs.length := by omega
    rw [show (1 : Int) + (m : Int) = ((m + 1 : Nat) : Int) by omega]
    have e1 := sgD (bs := bs) (i := ((m + 1 : Nat) : Int)) (by omega) (by omega) (by omega)
    have e2 := sgD (bs := bs) (i := ((m + 1 : Nat) : Int) - 1) (by omega) (by omega) (by omega)
    have te0 := take_end hd il
    have ni0 := hp _ (List.getElem_mem il)
    have si0 := sum_take (lns bs) hp i
    have d2 : dp bs (((m + 1 : Nat) : Int) - 1 + 1) = decide (i % 2 = 1) := dp_at hd il (by omega) (by omega)
    walk_at "ys"
    refine ⟨c2, ?_⟩
    rw [e1]
    walk_at "ys"
    by_cases c : ((lns bs).take (i + 1)).sum = (m : Int) + 1
    · -- a block begins
      have hi : i + 1 < (lns bs).length := (sum_lt hd).mp (by omega)
      have ni := hp _ (List.getElem_mem hi)
      have te := take_end hd hi
      have tl := sum_take (lns bs) hp (i + 1 + 1)
      rw [lns_sum hd] at tl
      have d1 : dp bs (((m + 1 : Nat) : Int) + 1) = decide ((i + 1) % 2 = 1) := dp_at hd hi (by omega) (by omega)
      rw [d1]
      rw [List.getElem?_eq_getElem il, Option.getD_some, List.drop_eq_getElem_cons hi, spN_c] at ea
      have fin : ∀ (acc' : List D) (s3' : Sl), canSet s3' = true → acc' = acc ++ (if (i + 1) % 2 = 1 then [.tup [.int (((lns bs).take (i + 1)).sum + 1), .int (lns bs)[i + 1], .int (lns bs)[i]]] else []) → ∃ (m' i : Nat) (acc : List D) (s2 s3 : Sl), m' + 1 ≤ bs.length ∧ (rngD 1 ((bs.length : Int) - 1).toNat).drop (m + 1) = (rngD 1 ((bs.length : Int) - 1).toNat).drop m' ∧ i < (lns bs).length ∧ ((lns bs).take i).sum < (m' : Int) + 1 ∧ (m' : Int) + 1 ≤ ((lns bs).take (i + 1)).sum ∧ acc ++ spN (((lns bs).take (i + 1)).sum + 1) (i + 1) ((lns bs)[i]?.getD 0) ((lns bs).drop (i + 1)) = spN 1 0 0 (lns bs) ∧ [Sl.dat (Ws bs), .cel .own (.lst acc'), .dat (.int ((m + 1 : Nat) : Int)), s3'] = [.dat (Ws bs), .cel .own (.lst acc), s2, s3] ∧ canSet s2 = true ∧ canSet s3 = true := fun acc' s3' c3' e => by
        refine ⟨m + 1, i + 1, acc', _, s3', hm, rfl, hi, by omega, by omega, ?_, rfl, rfl, c3'⟩
        rw [e, List.append_assoc, te, ← ea, List.getElem?_eq_getElem hi, Option.getD_some]
        congr 2
        rw [show ((lns bs).take (i + 1)).sum + (lns bs)[i + 1] + 1 = ((lns bs).take (i + 1)).sum + 1 + (lns bs)[i + 1] by omega]
      by_cases ci : (i + 1) % 2 = 1
      · have ne : ¬ i % 2 = 1 := by omega
        rw [decide_eq_true ci, if_pos rfl, e2, d2, decide_eq_false ne]
        rw [if_pos ci] at fin ea
        have ff := find_sg bs false (m + 1) (m + 1 + (lns bs)[i + 1].toNat) (by omega) (by omega) (fun j j1 j2 => by rw [bs_at hd hi (j := j) (by omega) (by omega), decide_eq_true ci]; rfl) (fun l => by
          have hi2 : i + 1 + 1 < (lns bs).length := (sum_lt hd).mp (by omega)
          have n2 := hp _ (List.getElem_mem hi2)
          rw [bs_at hd hi2 (j := m + 1 + (lns bs)[i + 1].toNat) (by omega) (by omega), decide_eq_false (by omega)])
        have fr := rfind_sg bs (m + 1) (m + 1 - (lns bs)[i].toNat) (by omega) (by omega) (fun j j1 j2 => by rw [bs_at hd il (j := j) (by omega) (by omega), decide_eq_false ne]) (fun l => by
          have i0 : 0 < i := by
            refine Nat.pos_of_ne_zero fun z => ?_
            subst z
            have z : ((lns bs).take 0).sum = 0 := rfl
            omega
          have te1 := take_end hd (i := i - 1) (by omega)
          have n2 := hp _ (List.getElem_mem (show i - 1 < (lns bs).length by omega))
          rw [show i - 1 + 1 = i by omega] at te1
          rw [bs_at hd (i := i - 1) (by omega) (by omega) (by omega), decide_eq_true (by omega)])
        have la : acc.length < 16777216 := by
          have q := congrArg List.length ea
          have q2 := spN_len (lns bs) 1 0 0
          simp at q
          omega
        have stp : ∀ (v : Int), v = (m : Int) + 1 + (lns bs)[i + 1] → acc ++ [D.tup [.int (((m + 1 : Nat) : Int) + 1), .int (v - ((m + 1 : Nat) : Int)), .int (((m + 1 : Nat) : Int) - 1 - (((m + 1 - (lns bs)[i].toNat : Nat) : Int) - 1))]] = acc ++ [.tup [.int (((lns bs).take (i + 1)).sum + 1), .int (lns bs)[i + 1], .int (lns bs)[i]]] := fun v e => by
          rw [e, c, show ((m + 1 : Nat) : Int) = (m : Int) + 1 by omega, show (m : Int) + 1 + (lns bs)[i + 1] - (m + 1) = (lns bs)[i + 1] by omega, show (m : Int) + 1 - 1 - (((m + 1 - (lns bs)[i].toNat : Nat) : Int) - 1) = (lns bs)[i] by omega]
        walk_at "ys"
        rw [ff, fr]
        refine ⟨c3, ?_⟩
        by_cases l : m + 1 + (lns bs)[i + 1].toNat < bs.length
        · rw [if_pos l, if_neg (by omega)]
          exact ⟨la, fin _ _ rfl (stp _ (by omega))⟩
        · rw [if_neg l, if_pos (by omega)]
          exact ⟨by omega, la, fin _ _ rfl (stp _ (by omega))⟩
      · rw [decide_eq_false ci, if_neg (by decide)]
        exact fin acc s3 c3 (by rw [if_neg ci, List.append_nil])
    · -- amid a block
      have d1 : dp bs (((m + 1 : Nat) : Int) + 1) = decide (i % 2 = 1) := dp_at hd il (by omega) (by omega)
      have fin : ∃ (m' i : Nat) (acc_1 : List D) (s2 s3_1 : Sl), m' + 1 ≤ bs.length ∧ (rngD 1 ((bs.length : Int) - 1).toNat).drop (m + 1) = (rngD 1 ((bs.length : Int) - 1).toNat).drop m' ∧ i < (lns bs).length ∧ ((lns bs).take i).sum < (m' : Int) + 1 ∧ (m' : Int) + 1 ≤ ((lns bs).take (i + 1)).sum ∧ acc_1 ++ spN (((lns bs).take (i + 1)).sum + 1) (i + 1) ((lns bs)[i]?.getD 0) ((lns bs).drop (i + 1)) = spN 1 0 0 (lns bs) ∧ [Sl.dat (Ws bs), .cel .own (.lst acc), .dat (.int ((m + 1 : Nat) : Int)), s3] = [.dat (Ws bs), .cel .own (.lst acc_1), s2, s3_1] ∧ canSet s2 = true ∧ canSet s3_1 = true :=
        ⟨m + 1, i, acc, _, s3, hm, rfl, il, by omega, by omega, ea, rfl, rfl, c3⟩
      rw [d1]
      by_cases ci : i % 2 = 1
      · rw [decide_eq_true ci, if_pos rfl, e2, d2, decide_eq_true ci]
        walk_at "ys"
        exact fin
      · rw [decide_eq_false ci, if_neg (by decide)]
        exact fin
  · rintro ⟨m, i, acc, s2, s3, kl, er, il, ks, ke, ea, rfl, c2, c3⟩
    have e : m + 1 = bs.length := by
      have q := rngc_ge er
      omega
    have ei : (lns bs).length ≤ i + 1 := by
      refine Classical.byContradiction fun q => ?_
      have := (sum_lt hd (i := i + 1)).mpr (by omega)
      omega
    rw [List.drop_eq_nil_of_le ei] at ea
    walk_at "ys"
    have ea : acc ++ [] = _ := ea
    rw [List.append_nil] at ea
    rw [ea]
    exact h

theorem y_int (x : Int) {K : Rv → List Sl → Prop} (h : K (.d (.bl true)) [.dat (.int x)]) : Y G_l_int [.dat (.int x)] K NX := by
  unfold G_l_int B_l_int
  walk_at "ys"
  exact h
def rT (r : List Int) : D := .tup (r.map .int)
def rL (b : Bool) (r : List Int) : D := match b with | true => .tup (r.map .int) | false => .lst (r.map .int)
theorem y_rows (b : Bool) (rs : List (List Int)) (hl : rs.length ≤ 1000) (hr : ∀ r ∈ rs, r.length ≤ 1000) {K : Rv → List Sl → Prop} (h : K (.d (.bl true)) [.dat (.lst (rs.map rT)), .dat (.lst (rs.map (rL b)))]) : Y G_l_rows [.dat (.lst (rs.map rT)), .dat (.lst (rs.map (rL b)))] K NX := by
  unfold G_l_rows B_l_rows
  walk_at "ys"
  refine ⟨by omega, ?_⟩
  refine Y_loop (I := fun r ρ => ∃ (i : Nat) (s s3 : Sl), r = (rngD 0 (rs.length : Int).toNat).drop i ∧ ρ = [.dat (.lst (rs.map rT)), .dat (.lst (rs.map (rL b))), s, s3] ∧ canSet s = true ∧ canSet s3 = true) ⟨0, .un, .un, rfl, rfl, rfl, rfl⟩ (fun x r ρ => ?_) (fun ρ => ?_)
  · rintro ⟨i, s, s3, er, rfl, c, c3⟩
    obtain ⟨hi, rfl, rfl⟩ := rngc_lt er
    have hi : i < rs.length := by omega
    have hri := hr _ (List.getElem_mem hi)
    rw [Int.zero_add]
    have e1 : atI (rs.map rT) (i : Int) = some (.tup (rs[i].map .int)) := at_map (f := rT) i hi
    have e2 : atI (rs.map (rL b)) (i : Int) = some (rL b rs[i]) := at_map (f := rL b) i hi
    walk_at "ys"
    refine ⟨c, ?_⟩
    rw [e1]
    walk_at "ys"
    cases b with
    | true =>
      have e2 : atI (rs.map (rL true)) (i : Int) = some (.tup (rs[i].map .int)) := e2
      rw [e2]
      walk_at "ys"
      refine ⟨by omega, ?_⟩
      refine Y_loop (I := fun r ρ => ∃ (j : Nat) (s3 : Sl), r = (rngD 0 (rs[i].length : Int).toNat).drop j ∧ ρ = [.dat (.lst (rs.map rT)), .dat (.lst (rs.map (rL true))), .dat (.int i), s3] ∧ canSet s3 = true) ⟨0, s3, rfl, rfl, c3⟩ (fun x r ρ => ?_) (fun ρ => ?_)
      · rintro ⟨j, s3, er, rfl, c3⟩
        obtain ⟨hj, rfl, rfl⟩ := rngc_lt er
        have hj : j < rs[i].length := by omega
        rw [Int.zero_add]
        have e3 : atI (rs[i].map D.int) (j : Int) = some (.int rs[i][j]) := at_map j hj
        walk_at "ys"
        refine ⟨c3, ?_⟩
        rw [e1]
        walk_at "ys"
        rw [e3]
        walk_at "ys"
        refine y_int _ ?_
        walk_at "ys"
        rw [e1]
        walk_at "ys"
        rw [e3]
        walk_at "ys"
        rw [e2]
        walk_at "ys"
        rw [e3]
        walk_at "ys"
        exact ⟨j + 1, _, rfl, rfl, rfl⟩
      · rintro ⟨j, s3, er, rfl, c3⟩
        walk_at "ys"
        exact ⟨i + 1, _, _, rfl, rfl, rfl, c3⟩
    | false =>
      have e2 : atI (rs.map (rL false)) (i : Int) = some (.lst (rs[i].map .int)) := e2
      rw [e2]
      walk_at "ys"
      refine ⟨by omega, ?_⟩
      refine Y_loop (I := fun r ρ => ∃ (j : Nat) (s3 : Sl), r = (rngD 0 (rs[i].length : Int).toNat).drop j ∧ ρ = [.dat (.lst (rs.map rT)), .dat (.lst (rs.map (rL false))), .dat (.int i), s3] ∧ canSet s3 = true) ⟨0, s3, rfl, rfl, c3⟩ (fun x r ρ => ?_) (fun ρ => ?_)
      · rintro ⟨j, s3, er, rfl, c3⟩
        obtain ⟨hj, rfl, rfl⟩ := rngc_lt er
        have hj : j < rs[i].length := by omega
        rw [Int.zero_add]
        have e3 : atI (rs[i].map D.int) (j : Int) = some (.int rs[i][j]) := at_map j hj
        walk_at "ys"
        refine ⟨c3, ?_⟩
        rw [e1]
        walk_at "ys"
        rw [e3]
        walk_at "ys"
        refine y_int _ ?_
        walk_at "ys"
        rw [e1]
        walk_at "ys"
        rw [e3]
        walk_at "ys"
        rw [e2]
        walk_at "ys"
        rw [e3]
        walk_at "ys"
        exact ⟨j + 1, _, rfl, rfl, rfl⟩
      · rintro ⟨j, s3, er, rfl, c3⟩
        walk_at "ys"
        exact ⟨i + 1, _, _, rfl, rfl, rfl, c3⟩
  · rintro ⟨i, s, s3, er, rfl, c, c3⟩
    walk_at "ys"
    exact h

theorem msgW : (Str.empty ++ Str.ofString "a weather has 1 to ").length ≤ 16777216 ∧ (Int.natAbs 200).log2 < 1920 ∧ (Str.empty ++ Str.ofString "a weather has 1 to " ++ Str.ofString (toString (200 : Int))).length ≤ 16777216 ∧
    (Str.empty ++ Str.ofString "a weather has 1 to " ++ Str.ofString (toString (200 : Int)) ++ Str.ofString " hours in runs and spells of at least one hour").length ≤ 16777216 := ⟨by decide, by decide, by decide +kernel, by decide +kernel⟩
theorem y_winit_noT (ls : List Int) (hne : ls ≠ []) (hp : ∀ n ∈ ls, 1 ≤ n) (hs : 200 < ls.sum) {K : Rv → List Sl → Prop} {X : XC} (h : X .BadWeather none [.cel .par (.obj .Weather []), .dat (.tup (ls.map .int))]) : Y G_Weather_init [.cel .par (.obj .Weather []), .dat (.tup (ls.map .int))] K X := by
  unfold G_Weather_init B_Weather_init
  walk_at "ys"
  have e1 := gMinA_of (ai_t ls) hne
  have e2 := gSumA_of (ai_t ls)
  have m1 := hp _ (minI_spec hne).1
  have l1 : (!(ls.map D.int).isEmpty) = true := by cases ls with | nil => exact absurd rfl hne | cons _ _ => rfl
  rw [e1, e2]
  walk_at "ys"
  rw [l1, if_neg (by decide), if_neg (by omega), if_pos (by omega)]
  exact ⟨msgW.1, msgW.2.1, msgW.2.2.1, msgW.2.2.2, h⟩
theorem lns_split {a : List Bool} (ha : Dry a) : ∃ init n, lns a = init ++ [n] := by
  rcases List.eq_nil_or_concat (lns a) with e | ⟨init, n, e⟩
  · exact absurd e (lns_ne ha)
  · exact ⟨init, n, by rw [e, List.concat_eq_append]⟩
theorem lns_cons {a : List Bool} (ha : Dry a) : ∃ n t, lns a = n :: t := by
  cases e : lns a with
  | nil => exact absurd e (lns_ne ha)
  | cons n t => exact ⟨n, t, rfl⟩
theorem lns_appD {a b : List Bool} (ha : Dry a) (hb : Dry b) (e : (lns a).length % 2 = 0) : lns (a ++ b) = lns a ++ lns b := by
  refine (lns_of ha.app (fun n hn => ?_) ?_).symm
  · rcases List.mem_append.mp hn with h | h
    · exact lns_pos ha n h
    · exact lns_pos hb n h
  · rw [unl_app, lns_unl ha, unl_par (lns b) (0 + (lns a).length) 0 (by omega), lns_unl hb]
theorem lns_appW {a b : List Bool} {init t : List Int} {n m : Int} (ha : Dry a) (hb : Dry b) (e : (lns a).length % 2 ≠ 0) (ea : lns a = init ++ [n]) (eb : lns b = m :: t) : lns (a ++ b) = init ++ [n + m] ++ t := by
  have pa := lns_pos ha
  have pb := lns_pos hb
  have ua := lns_unl ha
  have ub := lns_unl hb
  rw [ea] at pa e ua
  rw [eb] at pb ub
  have pn := pa n (by simp)
  have pm := pb m (by simp)
  rw [List.length_append, List.length_singleton] at e
  refine (lns_of ha.app (fun x hx => ?_) ?_).symm
  · rcases List.mem_append.mp hx with h | h
    · (rcases List.mem_append.mp h with h | h)
      · exact pa x (List.mem_append_left _ h)
      · rw [List.mem_singleton] at h; omega
    · exact pb x (List.mem_cons_of_mem _ h)
  · rw [← ua, ← ub, unl_app, unl_app, unl_app]
    have r1 : ∀ (i : Nat) (x : Int), unl i [x] = List.replicate x.toNat (decide (i % 2 = 1)) := fun i x => by
      show List.replicate _ _ ++ [] = _
      rw [List.append_nil]
    have r2 : unl 0 (m :: t) = List.replicate m.toNat false ++ unl 1 t := rfl
    rw [r1, r1, r2, decide_eq_false (show ¬ (0 + init.length) % 2 = 1 by omega), show (n + m).toNat = n.toNat + m.toNat by omega, ← List.replicate_append_replicate, unl_par t (0 + (init ++ [n + m]).length) 1 (by rw [List.length_append, List.length_singleton]; omega)]
    simp only [List.append_assoc]
theorem cut_init {α : Type} (l : List α) (x : α) : cut (l ++ [x]) none (some (-1)) = l := by
  have e : cut (l ++ [x]) none (some (-1)) = ((l ++ [x]).drop 0).take ((if (-1 : Int) < 0 then ((-1 : Int) + ((l ++ [x]).length : Nat)).toNat else min (-1 : Int).toNat (l ++ [x]).length) - 0) := rfl
  rw [e, if_pos (by omega), List.drop_zero, List.length_append, List.length_singleton, show ((-1 : Int) + ((l.length + 1 : Nat) : Int)).toNat - 0 = l.length by omega]
  exact List.take_left' rfl
theorem cut_tail {α : Type} (x : α) (l : List α) : cut (x :: l) (some 1) none = l := by
  have e : cut (x :: l) (some 1) none = ((x :: l).drop (if (1 : Int) < 0 then ((1 : Int) + ((x :: l).length : Nat)).toNat else min (1 : Int).toNat (x :: l).length)).take ((x :: l).length - (if (1 : Int) < 0 then ((1 : Int) + ((x :: l).length : Nat)).toNat else min (1 : Int).toNat (x :: l).length)) := rfl
  rw [e, if_neg (by omega), List.length_cons, show min (1 : Int).toNat (l.length + 1) = 1 by show min 1 (l.length + 1) = 1; omega]
  show l.take (l.length + 1 - 1) = l
  rw [Nat.add_sub_cancel, List.take_length]
theorem y_addX (a b : List Bool) (ha : Dry a) (hb : Dry b) (al : a.length ≤ 200) (bl : b.length ≤ 200) {K : Rv → List Sl → Prop} {X : XC}
    (h : if a.length + b.length ≤ 200 then K (.c (.obj .Weather [("lengths", .tup ((lns (a ++ b)).map .int))])) [.dat (We a), .dat (We b)] else X .BadWeather none [.dat (We a), .dat (We b)]) : Y G_Weather_add [.dat (We a), .dat (We b)] K X := by
  have la := lns_len ha
  have lb := lns_len hb
  have hs := lns_sum (bs := a ++ b) ha.app
  rw [List.length_append] at hs
  have hp := lns_pos (bs := a ++ b) ha.app
  have hne := lns_ne (bs := a ++ b) ha.app
  unfold G_Weather_add B_Weather_add
  walk_at "ys"
  refine y_endsdamp (lns a) ?_
  walk_at "ys"
  by_cases c : (lns a).length % 2 = 0
  · have e := lns_appD ha hb c
    rw [if_pos c]
    refine ⟨by omega, ?_⟩
    rw [← List.map_append, ← e]
    by_cases l : a.length + b.length ≤ 200
    · rw [if_pos l] at h
      refine y_winitT _ hne hp (by omega) ?_
      walk_at "ys"
      exact h
    · rw [if_neg l] at h
      refine y_winit_noT _ hne hp (by omega) ?_
      walk_at "ys"
      exact h
  · obtain ⟨init, n, ea⟩ := lns_split ha
    obtain ⟨m, t, eb⟩ := lns_cons hb
    have e := lns_appW ha hb c ea eb
    rw [if_neg c]
    have e1 : atI ((lns a).map D.int) (-1) = some (.int n) := by rw [ea, List.map_append]; exact ix_neg1
    have e2 : atI ((lns b).map D.int) 0 = some (.int m) := by rw [eb]; exact at_map (f := D.int) (l := m :: t) 0 (by simp)
    have e3 : cut ((lns a).map D.int) none (some (-1)) = init.map D.int := by rw [ea, List.map_append]; exact cut_init _ _
    have e4 : cut ((lns b).map D.int) (some 1) none = t.map D.int := by rw [eb]; exact cut_tail _ _
    have l1 : init.length + 1 ≤ 200 := by rw [ea, List.length_append, List.length_singleton] at la; omega
    have l2 : t.length + 1 ≤ 200 := by rw [eb, List.length_cons] at lb; omega
    rw [e1, e2]
    walk_at "ys"
    rw [e3, e4]
    walk_at "ys"
    refine ⟨by omega, by rw [List.length_append, List.length_map, List.length_singleton]; omega, ?_⟩
    rw [show init.map D.int ++ [D.int (n + m)] ++ t.map D.int = (lns (a ++ b)).map D.int by rw [e]; simp]
    by_cases l : a.length + b.length ≤ 200
    · rw [if_pos l] at h
      refine y_winitT _ hne hp (by omega) ?_
      walk_at "ys"
      exact h
    · rw [if_neg l] at h
      refine y_winit_noT _ hne hp (by omega) ?_
      walk_at "ys"
      exact h
theorem y_add (a b : List Bool) (ha : Dry a) (hb : Dry b) (al : a.length ≤ 200) (bl : b.length ≤ 200) (hl : a.length + b.length ≤ 200) {K : Rv → List Sl → Prop} {X : XC} (h : K (.c (.obj .Weather [("lengths", .tup ((lns (a ++ b)).map .int))])) [.dat (We a), .dat (We b)]) : Y G_Weather_add [.dat (We a), .dat (We b)] K X := y_addX a b ha hb al bl (by rw [if_pos hl]; exact h)
theorem y_add_no (a b : List Bool) (ha : Dry a) (hb : Dry b) (al : a.length ≤ 200) (bl : b.length ≤ 200) (hl : 200 < a.length + b.length) {K : Rv → List Sl → Prop} {X : XC} (h : X .BadWeather none [.dat (We a), .dat (We b)]) : Y G_Weather_add [.dat (We a), .dat (We b)] K X := y_addX a b ha hb al bl (by rw [if_neg (by omega)]; exact h)

theorem y_lsigns (x y z n : Int) (n1 : 1 ≤ n) (n2 : n ≤ 1000) {K : Rv → List Sl → Prop} (h : ∀ (bs : List Bool) (x' y' z' : Int), Dry bs → (bs.length : Int) = n → K (.d (Ws bs)) [Po x' y' z', .dat (.int n)]) : Y G_l_signs [Po x y z, .dat (.int n)] K NX := by
  unfold G_l_signs B_l_signs
  walk_at "ys"
  refine y_take _ _ _ _ (by omega) (by omega) fun d x1 y1 z1 d1 d2 => ?_
  walk_at "ys"
  refine ⟨by omega, ?_⟩
  refine Y_loop (I := fun r ρ => ∃ (i : Nat) (bs : List Bool) (x y z : Int) (b : Bool) (s : Sl), r = (rngD 0 (n - 1).toNat).drop i ∧ Dry bs ∧ bs.length = i + 1 ∧ ((i : Int) + 1 ≤ n) ∧ ρ = [Po x y z, .dat (.int n), .dat (Ws bs), .dat (.int d), .dat (.bl b), s] ∧ canSet s = true)
    ⟨0, [false], _, _, _, false, _, rfl, rfl, rfl, by omega, rfl, rfl⟩ (fun q r ρ => ?_) (fun ρ => ?_)
  · rintro ⟨i, bs, x, y, z, b, s, er, hd, hb, hi1, rfl, c⟩
    obtain ⟨hi, rfl, rfl⟩ := rngc_lt er
    have fin : ∀ (t x y z : Int) (b c : Bool), ∃ (i_1 : Nat) (bs' : List Bool) (x' y' z' : Int) (b' : Bool) (s : Sl), (rngD 0 (n - 1).toNat).drop (i + 1) = (rngD 0 (n - 1).toNat).drop i_1 ∧ Dry bs' ∧ bs'.length = i_1 + 1 ∧ ((i_1 : Int) + 1 ≤ n) ∧ [Po x y z, .dat (.int n), .dat (Ws (bs ++ [c])), .dat (.int d), .dat (.bl b), .dat (.int t)] = [Po x' y' z', .dat (.int n), .dat (Ws bs'), .dat (.int d), .dat (.bl b'), s] ∧ canSet s = true :=
      fun t x y z b c => ⟨i + 1, bs ++ [c], _, _, _, _, _, rfl, hd.app, by simp; omega, by omega, rfl, rfl⟩
    walk_at "ys"
    refine ⟨c, ?_⟩
    split
    · refine y_take _ _ _ _ (by omega) (by omega) fun d x1 y1 z1 d1 d2 => ?_
      walk_at "ys"
      split
      · exact ⟨by omega, fin _ _ _ _ _ _⟩
      · exact ⟨by omega, fin _ _ _ _ _ _⟩
    · split
      · refine y_take _ _ _ _ (by omega) (by omega) fun d x1 y1 z1 d1 d2 => ?_
        walk_at "ys"
        split
        · exact ⟨by omega, fin _ _ _ _ _ _⟩
        · exact ⟨by omega, fin _ _ _ _ _ _⟩
      · refine y_take _ _ _ _ (by omega) (by omega) fun d x1 y1 z1 d1 d2 => ?_
        cases b
        · walk_at "ys"
          split
          · exact ⟨by omega, fin _ _ _ _ _ _⟩
          · exact ⟨by omega, fin _ _ _ _ _ _⟩
        · walk_at "ys"
          split
          · exact ⟨by omega, fin _ _ _ _ _ _⟩
          · exact ⟨by omega, fin _ _ _ _ _ _⟩
  · rintro ⟨i, bs, x, y, z, b, s, er, hd, hb, hi1, rfl, c⟩
    have := rngc_ge er
    walk_at "ys"
    exact h bs _ _ _ hd (by omega)
theorem y_llengths (bs : List Bool) (hd : Dry bs) (hl : bs.length ≤ 1000) {K : Rv → List Sl → Prop} (h : K (.c (.lst ((lns bs).map .int))) [.dat (Ws bs)]) : Y G_l_lengths [.dat (Ws bs)] K NX := by
  have hd1 := hd.len
  unfold G_l_lengths B_l_lengths
  walk_at "ys"
  refine ⟨by omega, by omega, ?_⟩
  refine Y_loop (I := fun r ρ => ∃ (i : Nat) (ls : List Int) (s3 : Sl), r = (rngD 1 ((bs.length : Int) - 1).toNat).drop i ∧ i + 1 ≤ bs.length ∧ unl 0 ls = bs.take (i + 1) ∧ (∀ n ∈ ls, 1 ≤ n) ∧ ρ = [.dat (Ws bs), .cel .own (.lst (ls.map .int)), s3] ∧ canSet s3 = true)
    ⟨0, [1], .un, rfl, hd1, ?_, fun n hn => by simp at hn; omega, rfl, rfl⟩ (fun x r ρ => ?_) (fun ρ => ?_)
  · cases bs with
    | nil => cases hd
    | cons b bs => cases hd; rfl
  · rintro ⟨i, ls, s3, er, il, eu, hp, rfl, c3⟩
    obtain ⟨hi, rfl, rfl⟩ := rngc_lt er
    have hi1 : i + 1 < bs.length := by omega
    have hls : (ls.length : Int) ≤ 1000 := by
      have := unl_len 0 ls hp
      rw [eu, List.length_take] at this
      have h2 : ∀ l : List Int, (∀ n ∈ l, 1 ≤ n) → (l.length : Int) ≤ l.sum := by
        intro l
        induction l with
        | nil => intro _; exact Int.le_refl _
        | cons n l ih =>
          intro hp
          have := hp n List.mem_cons_self
          have := ih fun x hx => hp x (List.mem_cons_of_mem _ hx)
          rw [List.length_cons, List.sum_cons]
          omega
      have := h2 ls hp
      omega
    have ends : ∀ (ls' : List Int), unl 0 ls' = bs.take (i + 1) ++ [bs[i + 1]] → (∀ n ∈ ls', 1 ≤ n) → ∃ (j : Nat) (l : List Int) (s3' : Sl), (rngD 1 ((bs.length : Int) - 1).toNat).drop (i + 1) = (rngD 1 ((bs.length : Int) - 1).toNat).drop j ∧ j + 1 ≤ bs.length ∧ unl 0 l = bs.take (j + 1) ∧ (∀ n ∈ l, 1 ≤ n) ∧ [Sl.dat (Ws bs), .cel .own (.lst (ls'.map .int)), Sl.dat (.int (1 + i))] = [.dat (Ws bs), .cel .own (.lst (l.map .int)), s3'] ∧ canSet s3' = true :=
      fun ls' e1 e2 => ⟨i + 1, ls', _, rfl, hi1, by rw [take_snoc hi1]; exact e1, e2, rfl, rfl⟩
    have e1 := sgx (bs := bs) (i := 1 + (i : Int)) (by omega) (by omega) (by omega)
    have e2 := sgx (bs := bs) (i := 1 + (i : Int) - 1) (by omega) (by omega) (by omega)
    rcases List.eq_nil_or_concat ls with e | ⟨init, n, e⟩
    · subst e
      have := congrArg List.length eu
      rw [List.length_take] at this
      simp [unl] at this
      omega
    · rw [List.concat_eq_append] at e
      subst e
      have n1 := hp n (by simp)
      have el : bs[(1 + (i : Int) - 1).toNat]'(by omega) = decide (init.length % 2 = 1) := by
        have := unl_last (ls := init) n1
        rw [eu, take_snoc (by omega), List.getLast?_concat] at this
        have := Option.some.inj this
        rw [← this]
        congr 1
        omega
      rw [el] at e2
      have e3 : bs[(1 + (i : Int)).toNat]'(by omega) = bs[i + 1] := by congr 1; omega
      rw [e3] at e1
      show Y _ [_, Sl.cel .own (.lst ((init ++ [n]).map .int)), _] _ _
      rw [List.map_append, List.map_cons, List.map_nil]
      walk_at "ys"
      rw [e1, e2]
      walk_at "ys"
      refine ⟨c3, ?_⟩
      split
      · rename_i ec
        refine ⟨_, ix_neg1, rfl, _, rfl, _, ixN_neg1, ?_⟩
        rw [List.set_append_right _ _ (Nat.le_refl _), Nat.sub_self]
        show ∃ (i_1 : Nat) (ls : List Int) (s3 : Sl), _ ∧ _ ∧ _ ∧ _ ∧ [_, Sl.cel .own (.lst (init.map .int ++ [.int (n + 1)])), _] = _ ∧ _
        rw [show init.map D.int ++ [.int (n + 1)] = (init ++ [n + 1]).map D.int by simp]
        refine ends (init ++ [n + 1]) ?_ fun x hx => ?_
        · rw [unl_more (by omega), eu, ec]
        · rcases List.mem_append.mp hx with q | q
          · exact hp x (List.mem_append_left _ q)
          · simp at q; omega
      · rename_i ec
        refine ⟨by rw [List.length_append, List.length_map, List.length_singleton]; simp at hls; omega, ?_⟩
        rw [show (init.map D.int ++ [D.int n]) ++ [D.int 1] = (init ++ [n] ++ [1]).map D.int by simp]
        refine ends (init ++ [n] ++ [1]) ?_ fun x hx => ?_
        · rw [unl_new, eu, List.length_append, List.length_singleton, par_succ]
          congr 2
          revert ec
          cases bs[i + 1] <;> cases decide (init.length % 2 = 1) <;> simp
        · rcases List.mem_append.mp hx with q | q
          · exact hp x q
          · simp at q; omega
  · rintro ⟨i, ls, s3, er, il, eu, hp, rfl, c3⟩
    have := rngc_ge er
    have hi : i + 1 = bs.length := by omega
    rw [hi, List.take_length] at eu
    have e := lns_of hd hp eu
    subst e
    walk_at "ys"
    exact h

theorem msgH {n : Int} (h1 : -1199 ≤ n) (h2 : n ≤ 1199) : (Str.empty ++ Str.ofString "hour ").length ≤ 16777216 ∧ n.natAbs.log2 < 1920 ∧ (Str.empty ++ Str.ofString "hour " ++ Str.ofString (toString n)).length ≤ 16777216 ∧
    (Str.empty ++ Str.ofString "hour " ++ Str.ofString (toString n) ++ Str.ofString " is not told").length ≤ 16777216 := by
  have e0 : Str.empty.length = 0 := by decide
  have e1 : (Str.ofString "hour ").length = 5 := by decide
  have e2 : (Str.ofString " is not told").length = 12 := by decide
  have l1 := ts_len h1 h2
  simp only [sl_app, e0, e1, e2]
  exact ⟨by omega, lg_len h1 h2, by omega, by omega⟩
theorem y_told_no (bs : List Bool) (hd : Dry bs) (hl : bs.length ≤ 200) (n : Int) (hb : -1000 ≤ n ∧ n ≤ 1000) (hn : ¬ (1 ≤ n ∧ n ≤ bs.length)) {K : Rv → List Sl → Prop} {X : XC} (h : X .BadHour none [.dat (We bs), .dat (.int n)]) : Y G_Weather_check_told [.dat (We bs), .dat (.int n)] K X := by
  obtain ⟨m1, m2, m3, m4⟩ := msgH (n := n) (by omega) (by omega)
  unfold G_Weather_check_told B_Weather_check_told
  walk_at "ys"
  split
  · refine y_hours bs hd ?_
    walk_at "ys"
    rw [if_pos (by omega)]
    exact ⟨m1, m2, m3, m4, h⟩
  · exact ⟨m1, m2, m3, m4, h⟩
theorem y_dry (bs : List Bool) (hd : Dry bs) (hl : bs.length ≤ 200) (n : Int) (n1 : 1 ≤ n) (n2 : n ≤ bs.length) {K : Rv → List Sl → Prop} {X : XC} (h : K (.d (.bl (decide (dp bs n = false)))) [.dat (We bs), .dat (.int n)]) : Y G_Weather_is_dry [.dat (We bs), .dat (.int n)] K X := by
  unfold G_Weather_is_dry B_Weather_is_dry
  walk_at "ys"
  refine y_told bs hd n n1 n2 ?_
  walk_at "ys"
  refine y_signs bs hd (by omega) ?_
  walk_at "ys"
  rw [sgE n1 n2 (by omega)]
  walk_at "ys"
  exact h
theorem y_weq (a b : List Bool) (ha : Dry a) (hb : Dry b) {K : Rv → List Sl → Prop} (h : K (.d (.bl (decide (a = b)))) [.dat (We a), .dat (We b)]) : Y G_Weather_eq [.dat (We a), .dat (We b)] K NX := by
  unfold G_Weather_eq B_Weather_eq
  walk_at "ys"
  rw [eqT_ints]
  have e : decide (lns a = lns b) = decide (a = b) := by
    by_cases c : a = b
    · rw [c]; simp
    · rw [decide_eq_false c, decide_eq_false fun q => c (lns_inj ha hb q)]
  rw [e]
  exact ⟨_, rfl, h⟩

theorem y_equals (a b : List Bool) (ha : Dry a) (hb : Dry b) (c : Bool) (hc : decide (a = b) = c) {K : Rv → List Sl → Prop} (h : K (.d (.bl true)) [.dat (We a), .dat (We b), .dat (.bl c)]) : Y G_l_equals [.dat (We a), .dat (We b), .dat (.bl c)] K NX := by
  unfold G_l_equals B_l_equals
  walk_at "ys"
  refine y_weq a b ha hb ?_
  rw [hc]
  walk_at "ys"
  rw [beq_self_eq_true]
  exact h
theorem rnG_rows : ∀ (ls : List Int) (h : Int) (i : Nat), ∃ rs : List (List Int), rnG h i ls = rs.map rT ∧ (∀ r ∈ rs, r.length ≤ 1000) ∧ rs.length ≤ ls.length
  | [], _, _ => ⟨[], rfl, (fun x h => absurd h List.not_mem_nil), Nat.le_refl _⟩
  | n :: r, h, i => by
    obtain ⟨rs, e, hr, hl⟩ := rnG_rows r (h + n) (i + 1)
    rw [rnG_c, e]
    by_cases c : i % 2 = 0
    · rw [if_pos c]
      exact ⟨[h, n] :: rs, rfl, fun x hx => by
        rcases List.mem_cons.mp hx with q | q
        · subst q; simp
        · exact hr x q, by simp; omega⟩
    · rw [if_neg c]
      exact ⟨rs, rfl, hr, by simp; omega⟩
theorem slG_rows : ∀ (ps : List (Int × Int)) (h : Int), ∃ rs : List (List Int), slG h ps = rs.map rT ∧ (∀ r ∈ rs, r.length ≤ 1000) ∧ rs.length ≤ ps.length
  | [], _ => ⟨[], rfl, (fun x h => absurd h List.not_mem_nil), Nat.le_refl _⟩
  | (n, m) :: t, h => by
    obtain ⟨rs, e, hr, hl⟩ := slG_rows t (h + n + m)
    refine ⟨[h + n, m, n] :: rs, by unfold slG; rw [e]; rfl, fun x hx => ?_, by simp; omega⟩
    rcases List.mem_cons.mp hx with q | q
    · subst q; simp
    · exact hr x q
theorem sg_last {bs : List Bool} (hd : Dry bs) (hl : bs.length ≤ 16777216) : (if bs.length ≤ 16777216 then Option.map (fun c => D.str { cps := #[c] }) (atI (sg bs).cps.toList (-1)) else none) = some (.str (sg [dp bs bs.length])) := by
  rcases List.eq_nil_or_concat bs with e | ⟨init, b, e⟩
  · exact absurd e hd.ne
  · rw [List.concat_eq_append] at e
    subst e
    rw [if_pos hl, sg_cps, List.map_append, List.map_cons, List.map_nil, ix_neg1]
    have e : dp (init ++ [b]) ((init ++ [b]).length : Int) = b := by
      unfold dp
      rw [List.length_append, List.length_singleton, List.getElem?_append_right (by omega), show (((init.length + 1 : Nat) : Int) - 1).toNat - init.length = 0 by omega]
      rfl
    rw [e]
    rfl
theorem y_tells (bs : List Bool) (hd : Dry bs) (hl : bs.length ≤ 200) {K : Rv → List Sl → Prop} (h : K (.d (.bl true)) [.dat (We bs), .dat (Ws bs)]) : Y G_l_tells [.dat (We bs), .dat (Ws bs)] K NX := by
  have ll := lns_len hd
  have hd1 := hd.len
  unfold G_l_tells B_l_tells
  walk_at "ys"
  refine y_llengths bs hd (by omega) ?_
  walk_at "ys"
  refine y_rows true [lns bs, lns bs] (by simp) (fun r hr => by simp at hr; rw [hr]; omega) ?_
  walk_at "ys"
  refine y_hours bs hd ?_
  walk_at "ys"
  refine y_int _ ?_
  walk_at "ys"
  refine y_hours bs hd ?_
  walk_at "ys"
  refine ⟨by omega, ?_⟩
  rw [if_neg (by simp)]
  refine ⟨by omega, ?_⟩
  refine y_dry bs hd hl _ (by omega) (by omega) ?_
  walk_at "ys"
  rw [sg_last hd (by omega)]
  walk_at "ys"
  rw [if_neg (by simp)]
  refine y_signs bs hd (by omega) ?_
  walk_at "ys"
  exact h
theorem y_parts (bs : List Bool) (hd : Dry bs) (hl : bs.length ≤ 200) {K : Rv → List Sl → Prop} (h : K (.d (.bl true)) [.dat (We bs), .dat (Ws bs)]) : Y G_l_parts [.dat (We bs), .dat (Ws bs)] K NX := by
  have ll := lns_len hd
  obtain ⟨r1, e1, a1, b1⟩ := rnG_rows (lns bs) 1 0
  obtain ⟨r2, e2, a2, b2⟩ := slG_rows (prs (lns bs)) 1
  have lp := prs_len (lns bs)
  unfold G_l_parts B_l_parts
  walk_at "ys"
  refine y_tells bs hd hl ?_
  walk_at "ys"
  refine y_lruns bs hd (by omega) ?_
  walk_at "ys"
  refine y_lspells bs hd (by omega) ?_
  walk_at "ys"
  refine y_runs bs hd (by omega) ?_
  rw [e1]
  walk_at "ys"
  refine y_rows true r1 (by omega) a1 ?_
  walk_at "ys"
  refine y_spells bs hd (by omega) ?_
  rw [e2]
  walk_at "ys"
  refine y_rows true r2 (by omega) a2 ?_
  walk_at "ys"
  refine y_spells bs hd (by omega) ?_
  rw [e2]
  walk_at "ys"
  refine y_rows true r2 (by omega) a2 ?_
  walk_at "ys"
  refine y_runs bs hd (by omega) ?_
  rw [e1]
  walk_at "ys"
  refine y_rows true r1 (by omega) a1 ?_
  walk_at "ys"
  exact h
theorem y_no_first (bs : List Bool) (hd : Dry bs) (hl : bs.length ≤ 200) (n : Int) (hb : -1000 ≤ n ∧ n ≤ 1000) (hn : ¬ (1 ≤ n ∧ n ≤ bs.length)) {K : Rv → List Sl → Prop} (h : K (.d (.bl true)) [.dat (We bs), .dat (.int n)]) : Y G_l_no_first [.dat (We bs), .dat (.int n)] K NX := by
  unfold G_l_no_first B_l_no_first
  walk_at "ys"
  unfold G_Weather_first B_Weather_first
  walk_at "ys"
  refine y_told_no bs hd hl n hb hn ?_
  walk_at "ys"
  exact h
theorem y_cut (bs : List Bool) (hd : Dry bs) (hl : bs.length ≤ 200) (n : Int) (hb : -1000 ≤ n ∧ n ≤ 1000) {K : Rv → List Sl → Prop} (h : K (.d (.bl true)) [.dat (We bs), .dat (Ws bs), .dat (.int n)]) : Y G_l_cut [.dat (We bs), .dat (Ws bs), .dat (.int n)] K NX := by
  unfold G_l_cut B_l_cut
  walk_at "ys"
  by_cases c : 1 ≤ n ∧ n ≤ bs.length
  · have ht := hd.take (n := n.toNat) (by omega)
    have lt : (bs.take n.toNat).length ≤ 200 := by rw [List.length_take]; omega
    have ll := lns_len ht
    rw [if_neg (by omega)]
    refine ⟨by omega, ?_⟩
    rw [if_neg (by omega)]
    refine y_first bs hd hl n c.1 c.2 ?_
    walk_at "ys"
    refine ⟨by omega, ?_⟩
    rw [sg_cut, cut_to _ (by omega)]
    refine y_tells _ ht lt ?_
    walk_at "ys"
    refine ⟨by omega, ?_⟩
    rw [sg_cut, cut_to _ (by omega)]
    refine y_llengths _ ht (by omega) ?_
    walk_at "ys"
    refine y_rows false [lns (bs.take n.toNat)] (by simp) (fun r hr => by simp at hr; rw [hr]; omega) ?_
    walk_at "ys"
    exact h
  · by_cases c1 : n < 1
    · rw [if_pos c1]
      refine y_no_first bs hd hl n hb c ?_
      walk_at "ys"
      exact h
    · rw [if_neg c1]
      refine ⟨by omega, ?_⟩
      rw [if_pos (by omega)]
      refine y_no_first bs hd hl n hb c ?_
      walk_at "ys"
      exact h

theorem last_dp {bs : List Bool} (hd : Dry bs) : bs.getLast? = some (dp bs bs.length) := by
  rcases List.eq_nil_or_concat bs with e | ⟨init, b, e⟩
  · exact absurd e hd.ne
  · rw [List.concat_eq_append] at e
    subst e
    unfold dp
    rw [List.length_append, List.length_singleton, List.getElem?_append_right (by omega), show (((init.length + 1 : Nat) : Int) - 1).toNat - init.length = 0 by omega, List.getLast?_concat]
    rfl
theorem y_back_no (bs : List Bool) (hd : Dry bs) (h0 : dp bs bs.length = true) {K : Rv → List Sl → Prop} {X : XC} (h : X .BadWeather none [.dat (We bs)]) : Y G_Weather_back [.dat (We bs)] K X := by
  have l := lns_last hd
  rw [last_dp hd, h0] at l
  injection l with l
  unfold G_Weather_back B_Weather_back
  walk_at "ys"
  refine y_endsdamp (lns bs) ?_
  walk_at "ys"
  rw [if_pos (of_decide_eq_true l.symm)]
  exact h
def revF (bs : List Bool) : D → Option D | .int k => some (.str (sg [dp bs (bs.length - k)])) | _ => none
theorem rev_fm (bs : List Bool) : (rngD 0 bs.length).filterMap (revF bs) = ((bs.reverse.map fun b => [b]).map sg).map D.str := by
  rw [show rngD 0 bs.length = (List.range bs.length).map fun (k : Nat) => D.int (0 + (k : Int)) from rfl, List.filterMap_map, List.map_map, List.map_map]
  have e : (revF bs ∘ fun (k : Nat) => D.int (0 + (k : Int))) = fun (k : Nat) => some (D.str (sg [dp bs (bs.length - (k : Int))])) := funext fun k => by
    show some (D.str (sg [dp bs (bs.length - (0 + (k : Int)))])) = _
    rw [Int.zero_add]
  rw [e, List.filterMap_eq_map']
  (refine List.ext_getElem (by simp) fun i h1 h2 => ?_)
  simp only [List.getElem_map, List.getElem_range, Function.comp_apply]
  have hi : i < bs.length := by simpa using h1
  rw [List.getElem_reverse]
  unfold dp
  rw [show ((bs.length : Int) - (i : Int) - 1).toNat = bs.length - 1 - i by omega, List.getElem?_eq_getElem (by omega)]
  rfl
theorem fl_one (bs : List Bool) : (bs.map fun b => [b]).flatten = bs := by
  induction bs with
  | nil => rfl
  | cons a r ih => rw [List.map_cons, List.flatten_cons, ih]; rfl
theorem join_one (bs : List Bool) (hl : bs.length ≤ 1000) : dJoin (sg []) (D.lst (((bs.map fun b => [b]).map sg).map D.str)) = some (Ws bs) := by
  unfold dJoin
  simp only [D.items, Option.bind_some, D.strs_map]
  rw [sg_len, sg_join, fl_one, if_pos]
  rw [List.map_map]
  have e : ((fun (x : Str) => x.length) ∘ sg) = List.length := funext fun x => sg_len x
  rw [e, ← List.length_flatten, fl_one]
  simp
  omega
theorem y_nw0 (bs : List Bool) (hd : Dry bs) (h0 : dp bs bs.length = true) {K : Rv → List Sl → Prop} (h : K (.d (.bl true)) [.dat (We bs), .dat (We bs), .dat (We bs), .dat (.int 0)]) : Y G_l_no_weather [.dat (We bs), .dat (We bs), .dat (We bs), .dat (.int 0)] K NX := by
  unfold G_l_no_weather B_l_no_weather
  walk_at "ys"
  refine y_back_no bs hd h0 ?_
  walk_at "ys"
  exact h
theorem y_nw1 (a b c : List Bool) (ha : Dry a) (hb : Dry b) (al : a.length ≤ 200) (bl : b.length ≤ 200) (hl : 200 < a.length + b.length) {K : Rv → List Sl → Prop} (h : K (.d (.bl true)) [.dat (We a), .dat (We b), .dat (We c), .dat (.int 1)]) : Y G_l_no_weather [.dat (We a), .dat (We b), .dat (We c), .dat (.int 1)] K NX := by
  unfold G_l_no_weather B_l_no_weather
  walk_at "ys"
  refine y_add_no a b ha hb al bl hl ?_
  walk_at "ys"
  exact h
theorem y_nw2 (a b c : List Bool) (ha : Dry a) (hb : Dry b) (hc : Dry c) (al : a.length ≤ 200) (bl : b.length ≤ 200) (cl : c.length ≤ 200) (hl : 200 < a.length + b.length + c.length) {K : Rv → List Sl → Prop} (h : K (.d (.bl true)) [.dat (We a), .dat (We b), .dat (We c), .dat (.int 2)]) : Y G_l_no_weather [.dat (We a), .dat (We b), .dat (We c), .dat (.int 2)] K NX := by
  unfold G_l_no_weather B_l_no_weather
  walk_at "ys"
  refine y_addX a b ha hb al bl ?_
  split
  · walk_at "ys"
    refine y_add_no (a ++ b) c ha.app hc (by rw [List.length_append]; omega) cl (by rw [List.length_append]; omega) ?_
    walk_at "ys"
    exact h
  · walk_at "ys"
    exact h
theorem y_nw3 (a b c : List Bool) (ha : Dry a) (hb : Dry b) (hc : Dry c) (al : a.length ≤ 200) (bl : b.length ≤ 200) (cl : c.length ≤ 200) (hl : 200 < a.length + b.length + c.length) {K : Rv → List Sl → Prop} (h : K (.d (.bl true)) [.dat (We a), .dat (We b), .dat (We c), .dat (.int 3)]) : Y G_l_no_weather [.dat (We a), .dat (We b), .dat (We c), .dat (.int 3)] K NX := by
  unfold G_l_no_weather B_l_no_weather
  walk_at "ys"
  refine y_addX b c hb hc bl cl ?_
  split
  · walk_at "ys"
    refine y_add_no a (b ++ c) ha hb.app al (by rw [List.length_append]; omega) (by rw [List.length_append]; omega) ?_
    walk_at "ys"
    exact h
  · walk_at "ys"
    exact h
theorem y_turns (bs : List Bool) (hd : Dry bs) (hl : bs.length ≤ 200) {K : Rv → List Sl → Prop} (h : K (.d (.bl true)) [.dat (We bs), .dat (Ws bs)]) : Y G_l_turns [.dat (We bs), .dat (Ws bs)] K NX := by
  have hd1 := hd.len
  unfold G_l_turns B_l_turns
  walk_at "ys"
  rw [sg_last hd (by omega)]
  walk_at "ys"
  by_cases c : dp bs bs.length = true
  · rw [if_pos c]
    refine y_nw0 bs hd c ?_
    walk_at "ys"
    exact h
  · have c : dp bs bs.length = false := by revert c; cases dp bs bs.length <;> simp
    have hg : bs.getLast? = some false := by rw [last_dp hd, c]
    obtain ⟨hr, er⟩ := lns_back hd hg
    have lr : bs.reverse.length ≤ 200 := by rw [List.length_reverse]; omega
    have hg2 : bs.reverse.getLast? = some false := by rw [List.getLast?_reverse]; exact hd
    rw [c, if_neg (by decide)]
    refine y_back bs hd hl hg ?_
    walk_at "ys"
    refine ⟨by omega, by omega, ?_⟩
    refine Y_lcGo (f := revF bs) (ρ0 := [.dat (We bs), .dat (Ws bs), .dat (We bs.reverse), .un]) (P := fun x => ∃ k : Nat, x = .int k ∧ k < bs.length) (fun x acc ⟨k, e, k1⟩ hl => ?_) _ _ (fun x hx => ?_) ?_ ?_
    · subst e
      have e1 := sgD (bs := bs) (i := (bs.length : Int) - 1 - k) (by omega) (by omega) (by omega)
      rw [show (bs.length : Int) - 1 - k + 1 = bs.length - k by omega] at e1
      walk_at "ys"
      refine ⟨by omega, ?_⟩
      rw [e1]
      walk_at "ys"
      rfl
    · obtain ⟨k, hk, rfl⟩ := List.mem_map.mp hx
      rw [List.mem_range] at hk
      exact ⟨k, by rw [Int.zero_add], by omega⟩
    · rw [rng_len]
      simp
      omega
    · rw [List.nil_append, show ((bs.length : Int)).toNat = bs.length by omega, rev_fm]
      walk_at "ys"
      refine ⟨_, join_one _ (by rw [List.length_reverse]; omega), ?_⟩
      refine y_parts _ hr lr ?_
      walk_at "ys"
      refine y_signs _ hr (by omega) ?_
      walk_at "ys"
      refine y_llengths _ hr (by omega) ?_
      walk_at "ys"
      refine y_winit _ (lns_ne hr) (lns_pos hr) (by rw [lns_sum hr]; omega) ?_
      walk_at "ys"
      refine y_equals _ _ hr hr true (by simp) ?_
      walk_at "ys"
      refine y_signs _ hr (by omega) ?_
      walk_at "ys"
      refine y_equals _ _ hr hd _ (decide_eq_decide.mpr (by rw [sg_eq])) ?_
      walk_at "ys"
      refine y_signs _ hr (by omega) ?_
      walk_at "ys"
      refine y_equals _ _ hd hr _ (decide_eq_decide.mpr (by rw [sg_eq]; exact ⟨Eq.symm, Eq.symm⟩)) ?_
      walk_at "ys"
      refine y_back bs.reverse hr lr hg2 ?_
      rw [List.reverse_reverse]
      walk_at "ys"
      refine y_tells bs hd hl ?_
      walk_at "ys"
      refine y_back bs.reverse hr lr hg2 ?_
      rw [List.reverse_reverse]
      walk_at "ys"
      refine y_equals _ _ hd hd true (by simp) ?_
      walk_at "ys"
      exact h
theorem y_adds (a b : List Bool) (ha : Dry a) (hb : Dry b) (al : a.length ≤ 200) (bl : b.length ≤ 200) {K : Rv → List Sl → Prop} (h : K (.d (.bl true)) [.dat (We a), .dat (We b), .dat (Ws a), .dat (Ws b)]) : Y G_l_adds [.dat (We a), .dat (We b), .dat (Ws a), .dat (Ws b)] K NX := by
  unfold G_l_adds B_l_adds
  walk_at "ys"
  refine ⟨by omega, by omega, ?_⟩
  by_cases c : a.length + b.length ≤ 200
  · rw [if_neg (by omega)]
    refine y_add a b ha hb al bl c ?_
    walk_at "ys"
    refine ⟨by omega, ?_⟩
    refine y_tells (a ++ b) ha.app (by rw [List.length_append]; exact c) ?_
    walk_at "ys"
    exact h
  · rw [if_pos (by omega)]
    refine y_nw1 a b a ha hb al bl (by omega) ?_
    walk_at "ys"
    exact h
theorem y_joins (a b : List Bool) (ha : Dry a) (hb : Dry b) (al : a.length ≤ 200) (bl : b.length ≤ 200) (n : Int) (hn : -1000 ≤ n ∧ n ≤ 1000) {K : Rv → List Sl → Prop} (h : K (.d (.bl true)) [.dat (We a), .dat (We b), .dat (Ws a), .dat (Ws b), .dat (.int n)]) : Y G_l_joins [.dat (We a), .dat (We b), .dat (Ws a), .dat (Ws b), .dat (.int n)] K NX := by
  have a1 := ha.len
  unfold G_l_joins B_l_joins
  walk_at "ys"
  refine ⟨by omega, by omega, ?_⟩
  by_cases c : a.length + b.length ≤ 200
  · have hab : Dry (a ++ b) := ha.app
    have hl : (a ++ b).length ≤ 200 := by rw [List.length_append]; exact c
    rw [if_neg (by omega)]
    refine y_add a b ha hb al bl c ?_
    walk_at "ys"
    refine ⟨by omega, ?_⟩
    refine y_parts (a ++ b) hab hl ?_
    walk_at "ys"
    refine ⟨by omega, ?_⟩
    refine y_cut (a ++ b) hab hl n hn ?_
    walk_at "ys"
    refine ⟨by omega, ?_⟩
    refine y_llengths (a ++ b) hab (by omega) ?_
    walk_at "ys"
    refine y_winit _ (lns_ne hab) (lns_pos hab) (by rw [lns_sum hab]; omega) ?_
    walk_at "ys"
    refine y_equals _ _ hab hab true (by simp) ?_
    walk_at "ys"
    refine ⟨by omega, ?_⟩
    refine y_first (a ++ b) hab hl a.length (by omega) (by rw [List.length_append]; omega) ?_
    rw [show ((a.length : Int)).toNat = a.length by omega, List.take_left' rfl]
    walk_at "ys"
    refine y_equals _ _ ha ha true (by simp) ?_
    walk_at "ys"
    exact h
  · rw [if_pos (by omega)]
    refine y_nw1 a b a ha hb al bl (by omega) ?_
    walk_at "ys"
    exact h

theorem y_size (x y z u m : Int) (u1 : 1 ≤ u) (u2 : u ≤ 1000) (m1 : 1 ≤ m) (m2 : m ≤ 1000) {K : Rv → List Sl → Prop} (h : ∀ d x' y' z' : Int, 1 ≤ d → d ≤ max u m → K (.d (.int d)) [Po x' y' z', .dat (.int u), .dat (.int m)]) : Y G_l_size [Po x y z, .dat (.int u), .dat (.int m)] K NX := by
  unfold G_l_size B_l_size
  walk_at "ys"
  refine y_take _ _ _ _ (by omega) (by omega) fun d x1 y1 z1 d1 d2 => ?_
  walk_at "ys"
  split
  · refine y_take _ _ _ _ (by omega) (by omega) fun d x1 y1 z1 d1 d2 => ?_
    walk_at "ys"
    exact h _ _ _ _ (by omega) (by omega)
  · refine y_take _ _ _ _ (by omega) (by omega) fun d x1 y1 z1 d1 d2 => ?_
    walk_at "ys"
    exact h _ _ _ _ (by omega) (by omega)

theorem y_law (ns : List Int) {K : Rv → List Sl → Prop} (h : ∀ ρ, K (.d (.bl true)) ρ) : Y G_l_law [.dat (.sq (ns.map D.int))] K NX := by
  unfold G_l_law B_l_law
  rw [Y_run0]
  show Y _ [_, .un, .un, .un, .un, .un, .un, .un, .un, .un, .un, .un] _ _
  refine Y_cut (J := fun ρ => ∃ x y z : Int, ρ = [.dat (.sq (ns.map D.int)), .cel .own (.lst [.int x, .int y, .int z]), .un, .un, .un, .un, .un, .un, .un, .un, .un, .un]) ?_ ?_
  · walk_at "ys"
    refine y_cell ns 0 (by omega) fun c => ?_
    walk_at "ys"
    refine y_pool c fun x y z => ?_
    walk_at "ys"
    exact ⟨_, _, _, rfl⟩
  rintro _ ⟨x, y, z, rfl⟩
  refine Y_cut (J := fun ρ => ∃ (a : List Bool) (x y z : Int), (Dry a ∧ a.length ≤ 120) ∧ ρ = [.dat (.sq (ns.map D.int)), .cel .own (.lst [.int x, .int y, .int z]), .dat (Ws a), .un, .un, .un, .un, .un, .un, .un, .un, .un]) ?_ ?_
  · walk_at "ys"
    refine y_size _ _ _ 40 120 (by omega) (by omega) (by omega) (by omega) fun d x1 y1 z1 d1 d2 => ?_
    walk_at "ys"
    refine y_lsigns _ _ _ d (by omega) (by omega) fun bs x2 y2 z2 hd hl => ?_
    walk_at "ys"
    exact ⟨bs, _, _, _, ⟨hd, by omega⟩, rfl⟩
  rintro _ ⟨a, x, y, z, ⟨ha, al⟩, rfl⟩
  refine Y_cut (J := fun ρ => ∃ x y z : Int, ρ = [.dat (.sq (ns.map D.int)), .cel .own (.lst [.int x, .int y, .int z]), .dat (Ws a), .un, .un, .un, .un, .un, .un, .un, .un, .un]) ?_ ?_
  · walk_at "ys"
    refine y_cell ns 1 (by omega) fun c => ?_
    walk_at "ys"
    refine y_pool c fun x y z => ?_
    walk_at "ys"
    exact ⟨_, _, _, rfl⟩
  rintro _ ⟨x, y, z, rfl⟩
  refine Y_cut (J := fun ρ => ∃ (b : List Bool) (x y z : Int), (Dry b ∧ b.length ≤ 200) ∧ ρ = [.dat (.sq (ns.map D.int)), .cel .own (.lst [.int x, .int y, .int z]), .dat (Ws a), .dat (Ws b), .un, .un, .un, .un, .un, .un, .un, .un]) ?_ ?_
  · have ha1 := ha.len
    walk_at "ys"
    refine y_take _ _ _ _ (by omega) (by omega) fun d x1 y1 z1 d1 d2 => ?_
    walk_at "ys"
    split
    · refine y_take _ _ _ _ (by omega) (by omega) fun d x1 y1 z1 d1 d2 => ?_
      walk_at "ys"
      refine ⟨by omega, ?_⟩
      refine y_lsigns _ _ _ _ (by omega) (by omega) fun bs x2 y2 z2 hd hl => ?_
      walk_at "ys"
      exact ⟨bs, _, _, _, ⟨hd, by omega⟩, rfl⟩
    · refine y_size _ _ _ 40 120 (by omega) (by omega) (by omega) (by omega) fun d x1 y1 z1 d1 d2 => ?_
      walk_at "ys"
      refine y_lsigns _ _ _ d (by omega) (by omega) fun bs x2 y2 z2 hd hl => ?_
      walk_at "ys"
      exact ⟨bs, _, _, _, ⟨hd, by omega⟩, rfl⟩
  rintro _ ⟨b, x, y, z, ⟨hb, bl⟩, rfl⟩
  refine Y_cut (J := fun ρ => ∃ x y z : Int, ρ = [.dat (.sq (ns.map D.int)), .cel .own (.lst [.int x, .int y, .int z]), .dat (Ws a), .dat (Ws b), .un, .un, .un, .un, .un, .un, .un, .un]) ?_ ?_
  · walk_at "ys"
    refine y_cell ns 2 (by omega) fun c => ?_
    walk_at "ys"
    refine y_pool c fun x y z => ?_
    walk_at "ys"
    exact ⟨_, _, _, rfl⟩
  rintro _ ⟨x, y, z, rfl⟩
  refine Y_cut (J := fun ρ => ∃ (c : List Bool) (x y z : Int), (Dry c ∧ c.length ≤ 120) ∧ ρ = [.dat (.sq (ns.map D.int)), .cel .own (.lst [.int x, .int y, .int z]), .dat (Ws a), .dat (Ws b), .dat (Ws c), .un, .un, .un, .un, .un, .un, .un]) ?_ ?_
  · walk_at "ys"
    refine y_size _ _ _ 40 120 (by omega) (by omega) (by omega) (by omega) fun d x1 y1 z1 d1 d2 => ?_
    walk_at "ys"
    refine y_lsigns _ _ _ d (by omega) (by omega) fun bs x2 y2 z2 hd hl => ?_
    walk_at "ys"
    exact ⟨bs, _, _, _, ⟨hd, by omega⟩, rfl⟩
  rintro _ ⟨c, x, y, z, ⟨hc, cl⟩, rfl⟩
  refine Y_cut (J := fun ρ => ∃ x y z : Int, ρ = [.dat (.sq (ns.map D.int)), .cel .own (.lst [.int x, .int y, .int z]), .dat (Ws a), .dat (Ws b), .dat (Ws c), .un, .un, .un, .un, .un, .un, .un]) ?_ ?_
  · walk_at "ys"
    refine y_cell ns 3 (by omega) fun c => ?_
    walk_at "ys"
    refine y_pool c fun x y z => ?_
    walk_at "ys"
    exact ⟨_, _, _, rfl⟩
  rintro _ ⟨x, y, z, rfl⟩
  refine Y_cut (J := fun ρ => ∃ n x y z : Int, (-1 ≤ n ∧ n ≤ 200) ∧ ρ = [.dat (.sq (ns.map D.int)), .cel .own (.lst [.int x, .int y, .int z]), .dat (Ws a), .dat (Ws b), .dat (Ws c), .dat (.int n), .un, .un, .un, .un, .un, .un]) ?_ ?_
  · walk_at "ys"
    refine ⟨by omega, ?_⟩
    refine y_take _ _ _ _ (by omega) (by omega) fun d x1 y1 z1 d1 d2 => ?_
    walk_at "ys"
    exact ⟨_, _, _, _, ⟨by omega, by omega⟩, rfl⟩
  rintro _ ⟨n, x, y, z, ⟨n1, n2⟩, rfl⟩
  refine Y_cut (J := fun ρ => ∃ t x y z : Int, (1 ≤ t ∧ t ≤ 400) ∧ ρ = [.dat (.sq (ns.map D.int)), .cel .own (.lst [.int x, .int y, .int z]), .dat (Ws a), .dat (Ws b), .dat (Ws c), .dat (.int n), .dat (.int t), .un, .un, .un, .un, .un]) ?_ ?_
  · have ha1 := ha.len
    walk_at "ys"
    refine ⟨by omega, by omega, ?_⟩
    refine y_take _ _ _ _ (by omega) (by omega) fun d x1 y1 z1 d1 d2 => ?_
    walk_at "ys"
    exact ⟨_, _, _, _, ⟨by omega, by omega⟩, rfl⟩
  rintro _ ⟨t, x, y, z, ⟨t1, t2⟩, rfl⟩
  refine Y_cut (J := fun ρ => ρ = [.dat (.sq (ns.map D.int)), .cel .own (.lst [.int x, .int y, .int z]), .dat (Ws a), .dat (Ws b), .dat (Ws c), .dat (.int n), .dat (.int t), .dat (We a), .un, .un, .un, .un]) ?_ ?_
  · walk_at "ys"
    refine y_llengths a ha (by omega) ?_
    walk_at "ys"
    refine y_winit _ (lns_ne ha) (lns_pos ha) (by rw [lns_sum ha]; omega) ?_
    walk_at "ys"
  rintro _ rfl
  refine Y_cut (J := fun ρ => ρ = [.dat (.sq (ns.map D.int)), .cel .own (.lst [.int x, .int y, .int z]), .dat (Ws a), .dat (Ws b), .dat (Ws c), .dat (.int n), .dat (.int t), .dat (We a), .dat (We b), .un, .un, .un]) ?_ ?_
  · walk_at "ys"
    refine y_ofsigns b hb (by omega) ?_
    walk_at "ys"
  rintro _ rfl
  refine Y_cut (J := fun ρ => ρ = [.dat (.sq (ns.map D.int)), .cel .own (.lst [.int x, .int y, .int z]), .dat (Ws a), .dat (Ws b), .dat (Ws c), .dat (.int n), .dat (.int t), .dat (We a), .dat (We b), .dat (We c), .un, .un]) ?_ ?_
  · walk_at "ys"
    refine y_llengths c hc (by omega) ?_
    walk_at "ys"
    refine y_winit _ (lns_ne hc) (lns_pos hc) (by rw [lns_sum hc]; omega) ?_
    walk_at "ys"
  rintro _ rfl
  refine Y_cut (J := fun ρ => ρ = [.dat (.sq (ns.map D.int)), .cel .own (.lst [.int x, .int y, .int z]), .dat (Ws a), .dat (Ws b), .dat (Ws c), .dat (.int n), .dat (.int t), .dat (We a), .dat (We b), .dat (We c), .un, .un]) ?_ ?_
  · walk_at "ys"
    refine y_parts a ha (by omega) ?_
    walk_at "ys"
    refine y_parts b hb (by omega) ?_
    walk_at "ys"
    refine y_parts c hc (by omega) ?_
    walk_at "ys"
  rintro _ rfl
  refine Y_cut (J := fun ρ => ρ = [.dat (.sq (ns.map D.int)), .cel .own (.lst [.int x, .int y, .int z]), .dat (Ws a), .dat (Ws b), .dat (Ws c), .dat (.int n), .dat (.int t), .dat (We a), .dat (We b), .dat (We c), .un, .un]) ?_ ?_
  · walk_at "ys"
    refine y_turns a ha (by omega) ?_
    walk_at "ys"
    refine y_turns b hb (by omega) ?_
    walk_at "ys"
    refine y_turns c hc (by omega) ?_
    walk_at "ys"
  rintro _ rfl
  refine Y_cut (J := fun ρ => ρ = [.dat (.sq (ns.map D.int)), .cel .own (.lst [.int x, .int y, .int z]), .dat (Ws a), .dat (Ws b), .dat (Ws c), .dat (.int n), .dat (.int t), .dat (We a), .dat (We b), .dat (We c), .un, .un]) ?_ ?_
  · walk_at "ys"
    refine y_cut a ha (by omega) 0 (by omega) ?_
    walk_at "ys"
    refine ⟨by omega, ?_⟩
    refine y_cut a ha (by omega) _ (by omega) ?_
    walk_at "ys"
    refine y_cut a ha (by omega) n (by omega) ?_
    walk_at "ys"
  rintro _ rfl
  refine Y_cut (J := fun ρ => ρ = [.dat (.sq (ns.map D.int)), .cel .own (.lst [.int x, .int y, .int z]), .dat (Ws a), .dat (Ws b), .dat (Ws c), .dat (.int n), .dat (.int t), .dat (We a), .dat (We b), .dat (We c), .un, .un]) ?_ ?_
  · walk_at "ys"
    refine ⟨by omega, ?_⟩
    refine y_cut a ha (by omega) _ (by omega) ?_
    walk_at "ys"
    refine y_cut a ha (by omega) 1 (by omega) ?_
    walk_at "ys"
    refine y_cut a ha (by omega) _ (by omega) ?_
    walk_at "ys"
  rintro _ rfl
  refine Y_cut (J := fun ρ => ρ = [.dat (.sq (ns.map D.int)), .cel .own (.lst [.int x, .int y, .int z]), .dat (Ws a), .dat (Ws b), .dat (Ws c), .dat (.int n), .dat (.int t), .dat (We a), .dat (We b), .dat (We c), .un, .un]) ?_ ?_
  · walk_at "ys"
    refine y_joins a b ha hb (by omega) (by omega) t (by omega) ?_
    walk_at "ys"
    refine y_adds b a hb ha (by omega) (by omega) ?_
    walk_at "ys"
  rintro _ rfl
  refine Y_cut (J := fun ρ => ρ = [.dat (.sq (ns.map D.int)), .cel .own (.lst [.int x, .int y, .int z]), .dat (Ws a), .dat (Ws b), .dat (Ws c), .dat (.int n), .dat (.int t), .dat (We a), .dat (We b), .dat (We c), .un, .un]) ?_ ?_
  · walk_at "ys"
    refine y_adds c a hc ha (by omega) (by omega) ?_
    walk_at "ys"
    refine y_adds a a ha ha (by omega) (by omega) ?_
    walk_at "ys"
  rintro _ rfl
  refine Y_cut (J := fun ρ => ∃ s1 s2 : Sl, ρ = [.dat (.sq (ns.map D.int)), .cel .own (.lst [.int x, .int y, .int z]), .dat (Ws a), .dat (Ws b), .dat (Ws c), .dat (.int n), .dat (.int t), .dat (We a), .dat (We b), .dat (We c), s1, s2]) ?_ ?_
  · walk_at "ys"
    refine ⟨by omega, by omega, by omega, ?_⟩
    by_cases l : a.length + b.length + c.length ≤ 200
    · rw [if_neg (by omega)]
      refine y_add a b ha hb (by omega) (by omega) (by omega) ?_
      walk_at "ys"
      refine y_add (a ++ b) c ha.app hc (by rw [List.length_append]; omega) (by omega) (by rw [List.length_append]; omega) ?_
      walk_at "ys"
      refine y_add b c hb hc (by omega) (by omega) (by omega) ?_
      walk_at "ys"
      refine y_add a (b ++ c) ha hb.app (by omega) (by rw [List.length_append]; omega) (by rw [List.length_append]; omega) ?_
      walk_at "ys"
      rw [← List.append_assoc]
      have lab : (a ++ b).length ≤ 200 := by rw [List.length_append]; omega
      have lt : (a ++ b ++ c).length ≤ 200 := by rw [List.length_append, List.length_append]; omega
      refine ⟨by omega, by omega, ?_⟩
      refine y_tells (a ++ b ++ c) ha.app.app lt ?_
      walk_at "ys"
      refine ⟨by omega, by omega, ?_⟩
      refine y_tells (a ++ b ++ c) ha.app.app lt ?_
      walk_at "ys"
      refine y_equals _ _ ha.app.app ha.app.app true (by simp) ?_
      walk_at "ys"
      exact ⟨_, _, rfl⟩
    · rw [if_pos (by omega)]
      refine y_nw2 a b c ha hb hc (by omega) (by omega) (by omega) (by omega) ?_
      walk_at "ys"
      refine y_nw3 a b c ha hb hc (by omega) (by omega) (by omega) (by omega) ?_
      walk_at "ys"
      exact ⟨_, _, rfl⟩
  rintro _ ⟨s1, s2, rfl⟩
  walk_at "ys"
  refine y_parts a ha (by omega) ?_
  walk_at "ys"
  refine y_tells b hb (by omega) ?_
  walk_at "ys"
  refine y_tells c hc (by omega) ?_
  walk_at "ys"
  simpa using h _
theorem law_pure (ns : List Int) (_ : ns.length ≤ 63) : ∃ ρ, G_l_law [.dat (.sq (ns.map D.int))] = some (.ok (.d (.bl true)), ρ) := by
  obtain ⟨r, ρ, e, k⟩ := (y_law ns (K := fun r _ => r = .d (.bl true)) fun _ => rfl).mk
  subst k
  exact ⟨ρ, e⟩

end DP
namespace DP
open PySem PySem.Spec PyProof.Rows L2 PL
set_option maxHeartbeats 3900000
set_option exponentiation.threshold 20000
section
variable {P : Program} {w : World} {K : PySem.W.Frag} {mg : Str → Option Value} {base : Heap} {ad : Cl → Addr}
theorem ok_Weather_init {f : Addr} {fd : FuncData} (F : L2.Fun K "__init__" "Weather.__init__" s_Weather_init f fd)
    (T_BadWeather : S_BadWeather K mg (ad .BadWeather))
    (T_Weather : S_Weather K mg (ad .Weather))
    (z_min : mg "min" = none)
    (z_sum : mg "sum" = none)
    (z_tuple : mg "tuple" = none)
    (g_MOST_HOURS : ∃ u, mg "MOST_HOURS" = some u ∧ RelV (.int 200) u) :
    FnOk P w K mg base (L2.CX P w) 1 f fd ["self", "lengths"] (spP K ad 2 G_Weather_init) :=
  okX (N := N_Weather_init) (s := B_Weather_init) F sc_Weather_init rfl rfl fun cdv A outer s H E hr =>
    (ss_c (s_if (PW.pt (pp_woo (pp_tno (pp_ttr rfl (pp_v 1 (pv 1)))) (pp_woo (pp_tcmp op_lt o_lt (pp_B ob_minA (c_minA rfl hr.units rfl) (by rfl) z_min (by decide +kernel) (pd_c (pp_v 1 (pv 1)) pd_n)) (pp_c pe_int) (nomark _)) (pw_or1 (pp_tcmp op_gt o_gt (pp_B ob_sumA (c_sumA rfl rfl) (by rfl) z_sum (by decide +kernel) (pd_c (pp_v 1 (pv 1)) pd_n)) (pp_c (C8.pe_gc (by rfl) g_MOST_HOURS)) (nomark _))))))
    (ss_1 (s_raise1 .BadWeather rfl (takes_of rfl rfl rfl rfl) PySem.F.excBase_ValueError T_BadWeather.x T_BadWeather.mg T_BadWeather.kp (raises_own T_BadWeather.b T_BadWeather.t) rfl (pp_joined (.cons (pp_c pe_str) (.cons (pp_fmt (pp_c (C8.pe_gc (by rfl) g_MOST_HOURS))) (.cons (pp_c pe_str) .nil))))))
    ss_n)
    (ss_1 (s_fld .Weather 0 rfl T_Weather.cl T_Weather.n_lengths (pv 0) (pp_T ob_tup (c_tupA rfl) (by rfl) z_tuple (by decide +kernel) (pd_c (pp_v 1 (pv 1)) pd_n)))))

theorem ok_f_ends_damp {f : Addr} {fd : FuncData} (F : L2.Fun K "_ends_damp" "_ends_damp" s_f_ends_damp f fd)
    (z_len : mg "len" = none) :
    FnOk P w K mg base CX0 1 f fd ["lengths"] (spP K ad 1 G_f_ends_damp) :=
  ok0 (N := N_f_ends_damp) (s := B_f_ends_damp) F sc_f_ends_damp rfl rfl fun cdv A outer s H E hr =>
    (ss_1 (s_ret (pp_cmp (op_eqB hr.units) o_eq (pp_2 op_mod o_mod (pp_B ob_len (c_lenA rfl) (by rfl) z_len (by decide +kernel) (pd_c (pp_v 0 (pv 0)) pd_n)) (pp_c pe_int)) (pp_c pe_int) (nomark _))))

theorem ok_Weather_add {f : Addr} {fd : FuncData} (F : L2.Fun K "__add__" "Weather.__add__" s_Weather_add f fd)
    (T_Weather : S_Weather K mg (ad .Weather))
    {f_f_ends_damp : Addr} {fd_f_ends_damp : FuncData} (O_f_ends_damp : FnOk P w K mg base CX0 1 f_f_ends_damp fd_f_ends_damp ["lengths"] (spP K ad 1 G_f_ends_damp)) (m_f_ends_damp : mg "_ends_damp" = some (.ref f_f_ends_damp)) (k_f_ends_damp : PySem.W.keepIn K (.ref f_f_ends_damp) = true) (b_f_ends_damp : Binds K fd_f_ends_damp ["lengths"] [])
    {f_Weather_init : Addr} {fd_Weather_init : FuncData} (O_Weather_init : FnOk P w K mg base (L2.CX P w) 1 f_Weather_init fd_Weather_init ["self", "lengths"] (spP K ad 2 G_Weather_init)) (b_Weather_init : Binds K fd_Weather_init ["self", "lengths"] []) (I_Weather : Mk K (ad .Weather) f_Weather_init) :
    FnOk P w K mg base (L2.CX P w) 3 f fd ["self", "other"] (spP K ad 2 G_Weather_add) :=
  okX (N := N_Weather_add) (s := B_Weather_add) F sc_Weather_add rfl rfl fun cdv A outer s H E hr =>
    (ss_c (s_if (pp_tval (pp_call O_f_ends_damp (hr.mono (by decide)) (by rfl) m_f_ends_damp k_f_ends_damp b_f_ends_damp .nil pass0 (pq_c (pp_fld .Weather 0 rfl T_Weather.cl T_Weather.n_lengths (pp_v 0 (pv 0))) pq_n) .nil))
    (ss_1 (s_ret (pp_makeS .Weather I_Weather O_Weather_init (takes_of rfl rfl rfl rfl) (hr.mono (by decide)) (by rfl) T_Weather.mg b_Weather_init .nil (pq_c (pp_catT rfl (pp_fld .Weather 0 rfl T_Weather.cl T_Weather.n_lengths (pp_v 0 (pv 0))) (pp_fld .Weather 0 rfl T_Weather.cl T_Weather.n_lengths (pp_v 1 (pv 1)))) pq_n) .nil)))
    ss_n)
    (ss_c (s_set (i := 2) sc_Weather_add.nd rfl (by first | exact Or.inl rfl | exact Or.inr rfl) (pp_2 op_add o_add (pp_ix rfl (pp_fld .Weather 0 rfl T_Weather.cl T_Weather.n_lengths (pp_v 0 (pv 0))) (pp_1 un_neg o_neg (pp_c pe_int)) (fun _ _ => rfl)) (pp_ix rfl (pp_fld .Weather 0 rfl T_Weather.cl T_Weather.n_lengths (pp_v 1 (pv 1))) (pp_c pe_int) (fun _ _ => rfl))))
    (ss_1 (s_ret (pp_makeS .Weather I_Weather O_Weather_init (takes_of rfl rfl rfl rfl) (hr.mono (by decide)) (by rfl) T_Weather.mg b_Weather_init .nil (pq_c (pp_catT rfl (pp_catT rfl (pp_sl rfl (pp_fld .Weather 0 rfl T_Weather.cl T_Weather.n_lengths (pp_v 0 (pv 0))) pp_pn (pp_ps (pp_1 un_neg o_neg (pp_c pe_int)))) (pp_tup (pd_c (pp_v 2 (pv 2)) pd_n))) (pp_sl rfl (pp_fld .Weather 0 rfl T_Weather.cl T_Weather.n_lengths (pp_v 1 (pv 1))) (pp_ps (pp_c pe_int)) pp_pn)) pq_n) .nil)))))

theorem ok_f_lengths_of {f : Addr} {fd : FuncData} (F : L2.Fun K "lengths_of" "lengths_of" s_f_lengths_of f fd)
     :
    FnOk P w K mg base CX0 1 f fd ["signs"] (spP K ad 1 G_f_lengths_of) :=
  ok0 (N := N_f_lengths_of) (s := B_f_lengths_of) F sc_f_lengths_of rfl rfl fun cdv A outer s H E hr =>
    (ss_c (s_setC (i := 1) sc_f_lengths_of.nd rfl (by first | exact Or.inl rfl | exact Or.inr rfl) (pp_lst pd_n))
    (ss_c (s_set (i := 2) sc_f_lengths_of.nd rfl (by first | exact Or.inl rfl | exact Or.inr rfl) (pp_c pe_non))
    (ss_c (s_for PassesOwn.never rfl (pi_s (pp_v 0 (pv 0))) (g_n (i := 3) sc_f_lengths_of.nd rfl (by first | exact Or.inl rfl | exact Or.inr rfl))
    (ss_c (s_if (pp_tcmp (op_eqB hr.units) o_eq (pp_v 3 (pv 3)) (pp_v 2 (pv 2)) (nomark _))
    (ss_1 (s_setI 1 (pv 1) (pp_1 un_neg o_neg (pp_c pe_int)) (pp_2 op_add o_add (look_v 1 (pp_ix rfl (pp_v 1 (pv 1)) (pp_1 un_neg o_neg (pp_c pe_int)) (fun _ _ => rfl))) (pp_c pe_int))))
    (ss_1 (s_ex (pp_bmL 1 rfl ol_app PySem.F.plainAttrs_list PySem.F.slot_list_append PySem.F.type_list_append mt_append (pv 1) (pd_c (pp_c pe_int) pd_n)))))
    (ss_1 (s_set (i := 2) sc_f_lengths_of.nd rfl (by first | exact Or.inl rfl | exact Or.inr rfl) (pp_v 3 (pv 3))))))
    (ss_1 (s_ret (pp_m 1 (pv 1)))))))

theorem ok_Weather_of_signs {f : Addr} {fd : FuncData} (F : L2.Fun K "of_signs" "Weather.of_signs" s_Weather_of_signs f fd)
    (T_BadWeather : S_BadWeather K mg (ad .BadWeather))
    (T_Weather : S_Weather K mg (ad .Weather))
    (z_len : mg "len" = none)
    (g_DAMP : ∃ u, mg "DAMP" = some u ∧ RelV (.str "#") u)
    (g_DRY : ∃ u, mg "DRY" = some u ∧ RelV (.str ".") u)
    (g_MOST_HOURS : ∃ u, mg "MOST_HOURS" = some u ∧ RelV (.int 200) u)
    {f_f_lengths_of : Addr} {fd_f_lengths_of : FuncData} (O_f_lengths_of : FnOk P w K mg base CX0 1 f_f_lengths_of fd_f_lengths_of ["signs"] (spP K ad 1 G_f_lengths_of)) (m_f_lengths_of : mg "lengths_of" = some (.ref f_f_lengths_of)) (k_f_lengths_of : PySem.W.keepIn K (.ref f_f_lengths_of) = true) (b_f_lengths_of : Binds K fd_f_lengths_of ["signs"] [])
    {f_Weather_init : Addr} {fd_Weather_init : FuncData} (O_Weather_init : FnOk P w K mg base (L2.CX P w) 1 f_Weather_init fd_Weather_init ["self", "lengths"] (spP K ad 2 G_Weather_init)) (b_Weather_init : Binds K fd_Weather_init ["self", "lengths"] []) (I_Weather : Mk K (ad .Weather) f_Weather_init) :
    FnOk P w K mg base (L2.CX P w) 3 f fd ["signs"] (spP K ad 1 G_Weather_of_signs) :=
  okX (N := N_Weather_of_signs) (s := B_Weather_of_signs) F sc_Weather_of_signs rfl rfl fun cdv A outer s H E hr =>
    (ss_c (s_if (PW.pt (pp_woo (pp_tno (pp_tch2 op_le op_le o_le o_le (pp_c pe_int) (pp_B ob_len (c_lenA rfl) (by rfl) z_len (by decide +kernel) (pd_c (pp_v 0 (pv 0)) pd_n)) (pp_c (C8.pe_gc (by rfl) g_MOST_HOURS)))) (pw_or1 (pp_tcmp (op_neB hr.units) o_ne (pp_ix rfl (pp_v 0 (pv 0)) (pp_c pe_int) (fun _ _ => rfl)) (pp_c (C8.pe_gc (by rfl) g_DRY)) (nomark _)))))
    (ss_1 (s_raise1 .BadWeather rfl (takes_of rfl rfl rfl rfl) PySem.F.excBase_ValueError T_BadWeather.x T_BadWeather.mg T_BadWeather.kp (raises_own T_BadWeather.b T_BadWeather.t) rfl (pp_joined (.cons (pp_c pe_str) (.cons (pp_fmt (pp_c (C8.pe_gc (by rfl) g_MOST_HOURS))) (.cons (pp_c pe_str) .nil))))))
    ss_n)
    (ss_c (s_if (pp_tcmp (op_neB hr.units) o_ne (pp_2 op_add o_add (pp_cnt (pp_v 0 (pv 0)) (pp_c (C8.pe_gc (by rfl) g_DRY))) (pp_cnt (pp_v 0 (pv 0)) (pp_c (C8.pe_gc (by rfl) g_DAMP)))) (pp_B ob_len (c_lenA rfl) (by rfl) z_len (by decide +kernel) (pd_c (pp_v 0 (pv 0)) pd_n)) (nomark _))
    (ss_1 (s_raise .BadWeather rfl (takes_of rfl rfl rfl rfl) PySem.F.excBase_ValueError T_BadWeather.x T_BadWeather.mg T_BadWeather.kp (raises_own T_BadWeather.b T_BadWeather.t) rfl))
    ss_n)
    (ss_1 (s_ret (pp_makeS .Weather I_Weather O_Weather_init (takes_of rfl rfl rfl rfl) (hr.mono (by decide)) (by rfl) T_Weather.mg b_Weather_init .nil (pq_c (pp_call O_f_lengths_of (hr.mono (by decide)) (by rfl) m_f_lengths_of k_f_lengths_of b_f_lengths_of .nil pass0 (pq_c (pp_v 0 (pv 0)) pq_n) .nil) pq_n) .nil)))))

theorem ok_Weather_back {f : Addr} {fd : FuncData} (F : L2.Fun K "back" "Weather.back" s_Weather_back f fd)
    (T_BadWeather : S_BadWeather K mg (ad .BadWeather))
    (T_Weather : S_Weather K mg (ad .Weather))
    {f_f_ends_damp : Addr} {fd_f_ends_damp : FuncData} (O_f_ends_damp : FnOk P w K mg base CX0 1 f_f_ends_damp fd_f_ends_damp ["lengths"] (spP K ad 1 G_f_ends_damp)) (m_f_ends_damp : mg "_ends_damp" = some (.ref f_f_ends_damp)) (k_f_ends_damp : PySem.W.keepIn K (.ref f_f_ends_damp) = true) (b_f_ends_damp : Binds K fd_f_ends_damp ["lengths"] [])
    {f_Weather_init : Addr} {fd_Weather_init : FuncData} (O_Weather_init : FnOk P w K mg base (L2.CX P w) 1 f_Weather_init fd_Weather_init ["self", "lengths"] (spP K ad 2 G_Weather_init)) (b_Weather_init : Binds K fd_Weather_init ["self", "lengths"] []) (I_Weather : Mk K (ad .Weather) f_Weather_init) :
    FnOk P w K mg base (L2.CX P w) 3 f fd ["self"] (spP K ad 1 G_Weather_back) :=
  okX (N := N_Weather_back) (s := B_Weather_back) F sc_Weather_back rfl rfl fun cdv A outer s H E hr =>
    (ss_c (s_if (pp_tval (pp_call O_f_ends_damp (hr.mono (by decide)) (by rfl) m_f_ends_damp k_f_ends_damp b_f_ends_damp .nil pass0 (pq_c (pp_fld .Weather 0 rfl T_Weather.cl T_Weather.n_lengths (pp_v 0 (pv 0))) pq_n) .nil))
    (ss_1 (s_raise .BadWeather rfl (takes_of rfl rfl rfl rfl) PySem.F.excBase_ValueError T_BadWeather.x T_BadWeather.mg T_BadWeather.kp (raises_own T_BadWeather.b T_BadWeather.t) rfl))
    ss_n)
    (ss_1 (s_ret (pp_makeS .Weather I_Weather O_Weather_init (takes_of rfl rfl rfl rfl) (hr.mono (by decide)) (by rfl) T_Weather.mg b_Weather_init .nil (pq_c (pp_st rfl (pp_fld .Weather 0 rfl T_Weather.cl T_Weather.n_lengths (pp_v 0 (pv 0))) (.rv _ _ _)) pq_n) .nil))))

theorem ok_l_no_weather {f : Addr} {fd : FuncData} (F : L2.Fun K "_law_no_weather" "_law_no_weather" s_l_no_weather f fd)
    (T_BadHour : S_BadHour K mg (ad .BadHour))
    (T_BadWeather : S_BadWeather K mg (ad .BadWeather))
    (T_DampError : S_DampError K mg (ad .DampError))
    (T_TooLarge : S_TooLarge K mg (ad .TooLarge))
    (T_Weather : S_Weather K mg (ad .Weather))
    (z_ValueError : mg "ValueError" = none)
    (z_isinstance : mg "isinstance" = none)
    (kit_BadWeather_BadHour : PySem.W.kitOne K (.ref (ad .BadWeather)) (.ref (ad .BadHour)) = some false)
    (kit_BadWeather_DampError : PySem.W.kitOne K (.ref (ad .BadWeather)) (.ref (ad .DampError)) = some true)
    (kit_BadWeather_TooLarge : PySem.W.kitOne K (.ref (ad .BadWeather)) (.ref (ad .TooLarge)) = some false)
    (kit_BadWeather_ValueError : PySem.W.kitOne K (.ref (ad .BadWeather)) (.type "ValueError") = some true)
    (xm_BadHour_BadWeather : PySem.W.exmOne K (.ref (ad .BadHour)) (.ref (ad .BadWeather)) = some false)
    (xm_BadWeather_BadWeather : PySem.W.exmOne K (.ref (ad .BadWeather)) (.ref (ad .BadWeather)) = some true)
    (xm_DampError_BadWeather : PySem.W.exmOne K (.ref (ad .DampError)) (.ref (ad .BadWeather)) = some false)
    (xm_TooLarge_BadWeather : PySem.W.exmOne K (.ref (ad .TooLarge)) (.ref (ad .BadWeather)) = some false)
    {f_Weather_add : Addr} {fd_Weather_add : FuncData} (O_Weather_add : FnOk P w K mg base (L2.CX P w) 3 f_Weather_add fd_Weather_add ["self", "other"] (spP K ad 2 G_Weather_add)) (b_Weather_add : Binds K fd_Weather_add ["self", "other"] []) (M_Weather_add : Meth K (ad .Weather) "__add__" f_Weather_add)
    {f_Weather_back : Addr} {fd_Weather_back : FuncData} (O_Weather_back : FnOk P w K mg base (L2.CX P w) 3 f_Weather_back fd_Weather_back ["self"] (spP K ad 1 G_Weather_back)) (b_Weather_back : Binds K fd_Weather_back ["self"] []) (M_Weather_back : Meth K (ad .Weather) "back" f_Weather_back) :
    FnOk P w K mg base CX0 4 f fd ["x", "y", "z", "way"] (spP K ad 4 G_l_no_weather) :=
  ok0 (N := N_l_no_weather) (s := B_l_no_weather) F sc_l_no_weather rfl rfl fun cdv A outer s H E hr =>
    (ss_c (s_set (i := 4) sc_l_no_weather.nd rfl (by first | exact Or.inl rfl | exact Or.inr rfl) (pp_c pe_bl))
    (ss_c (s_set (i := 5) sc_l_no_weather.nd rfl (by first | exact Or.inl rfl | exact Or.inr rfl) (pp_c pe_bl))
    (ss_c (s_tryA (i := 7) rfl rfl rfl sc_l_no_weather.nd rfl rfl ⟨rfl, by decide, (.inl T_BadWeather.mg)⟩ takes0 (.cons xm_DampError_BadWeather (.cons xm_BadWeather_BadWeather (.cons xm_BadHour_BadWeather (.cons xm_TooLarge_BadWeather .nil))))
    (fun W pn xe tk po => (ss_1 (s_if (pp_tcmp (op_eqB hr.units) o_eq (pp_v 3 (pv 3)) (pp_c pe_int) (nomark _))
    (ss_1 (s_ex (pp_methS0 .Weather (pp_v 0 (pv 0)) T_Weather.cl M_Weather_back O_Weather_back tk (hr.mono (by decide)) b_Weather_back)))
    (ss_1 (s_if (pp_tcmp (op_eqB hr.units) o_eq (pp_v 3 (pv 3)) (pp_c pe_int) (nomark _))
    (ss_1 (s_set (i := 6) sc_l_no_weather.nd rfl (by first | exact Or.inl rfl | exact Or.inr rfl) (pp_own2S .Weather rfl M_Weather_add T_Weather.sf O_Weather_add tk (hr.mono (by decide)) b_Weather_add (pp_v 0 (pv 0)) (pp_v 1 (pv 1)))))
    (ss_1 (s_if (pp_tcmp (op_eqB hr.units) o_eq (pp_v 3 (pv 3)) (pp_c pe_int) (nomark _))
    (ss_c (s_set (i := 6) sc_l_no_weather.nd rfl (by first | exact Or.inl rfl | exact Or.inr rfl) (pp_own2S .Weather rfl M_Weather_add T_Weather.sf O_Weather_add tk (hr.mono (by decide)) b_Weather_add (pp_v 0 (pv 0)) (pp_v 1 (pv 1))))
    (ss_1 (s_set (i := 6) sc_l_no_weather.nd rfl (by first | exact Or.inl rfl | exact Or.inr rfl) (pp_own2S .Weather rfl M_Weather_add T_Weather.sf O_Weather_add tk (hr.mono (by decide)) b_Weather_add (pp_v 6 (pv 6)) (pp_v 2 (pv 2))))))
    (ss_c (s_set (i := 6) sc_l_no_weather.nd rfl (by first | exact Or.inl rfl | exact Or.inr rfl) (pp_own2S .Weather rfl M_Weather_add T_Weather.sf O_Weather_add tk (hr.mono (by decide)) b_Weather_add (pp_v 1 (pv 1)) (pp_v 2 (pv 2))))
    (ss_1 (s_set (i := 6) sc_l_no_weather.nd rfl (by first | exact Or.inl rfl | exact Or.inr rfl) (pp_own2S .Weather rfl M_Weather_add T_Weather.sf O_Weather_add tk (hr.mono (by decide)) b_Weather_add (pp_v 0 (pv 0)) (pp_v 6 (pv 6)))))))))))))
    (fun a oe cls d pn hz hf => (ss_c (s_set (i := 4) sc_l_no_weather.nd rfl (by first | exact Or.inl rfl | exact Or.inr rfl) (pp_c pe_bl))
    (ss_c (s_set (i := 5) sc_l_no_weather.nd rfl (by first | exact Or.inl rfl | exact Or.inr rfl) (pp_van (pp_isE 7 rfl hz hf (.o kit_BadWeather_DampError T_BadWeather.ex .nil) (fun _ h => ClsV.eq ((.own _)) h) (by rfl) z_isinstance (pv 7) (C8.pe_gc (v := .ref (ad .DampError)) (by rfl) ⟨_, T_DampError.mg, rfl⟩)) (pe_one (pp_isE 7 rfl hz hf (.o kit_BadWeather_ValueError T_BadWeather.ex .nil) (fun _ h => ClsV.eq ((.ty _)) h) (by rfl) z_isinstance (pv 7) (pe_bltn (v := .ty "ValueError") (by rfl) z_ValueError (by decide +kernel) rfl)))))
    (ss_1 (s_set (i := 5) sc_l_no_weather.nd rfl (by first | exact Or.inl rfl | exact Or.inr rfl) (pp_van (pp_v 5 (pv 5)) (pp_van (pp_vno (pp_isE 7 rfl hz hf (.o kit_BadWeather_TooLarge T_BadWeather.ex .nil) (fun _ h => ClsV.eq ((.own _)) h) (by rfl) z_isinstance (pv 7) (C8.pe_gc (v := .ref (ad .TooLarge)) (by rfl) ⟨_, T_TooLarge.mg, rfl⟩))) (pe_one (pp_vno (pp_isE 7 rfl hz hf (.o kit_BadWeather_BadHour T_BadWeather.ex .nil) (fun _ h => ClsV.eq ((.own _)) h) (by rfl) z_isinstance (pv 7) (C8.pe_gc (v := .ref (ad .BadHour)) (by rfl) ⟨_, T_BadHour.mg, rfl⟩))))))))))))
    (ss_1 (s_ret (pp_van (pp_v 4 (pv 4)) (pe_one (pp_v 5 (pv 5)))))))))

theorem ok_Weather_hours {f : Addr} {fd : FuncData} (F : L2.Fun K "hours" "Weather.hours" s_Weather_hours f fd)
    (T_Weather : S_Weather K mg (ad .Weather))
    (z_sum : mg "sum" = none) :
    FnOk P w K mg base CX0 1 f fd ["self"] (spP K ad 1 G_Weather_hours) :=
  ok0 (N := N_Weather_hours) (s := B_Weather_hours) F sc_Weather_hours rfl rfl fun cdv A outer s H E hr =>
    (ss_1 (s_ret (pp_B ob_sumT (OW.cr_sumT rfl) (by rfl) z_sum (by decide +kernel) (pd_c (pp_fld .Weather 0 rfl T_Weather.cl T_Weather.n_lengths (pp_v 0 (pv 0))) pd_n))))

theorem ok_Weather_check_told {f : Addr} {fd : FuncData} (F : L2.Fun K "_check_told" "Weather._check_told" s_Weather_check_told f fd)
    (T_BadHour : S_BadHour K mg (ad .BadHour))
    (T_Weather : S_Weather K mg (ad .Weather))
    {f_Weather_hours : Addr} {fd_Weather_hours : FuncData} (O_Weather_hours : FnOk P w K mg base CX0 1 f_Weather_hours fd_Weather_hours ["self"] (spP K ad 1 G_Weather_hours)) (b_Weather_hours : Binds K fd_Weather_hours ["self"] []) {p_Weather_hours : Addr} (P_Weather_hours : PropOf K (ad .Weather) "hours" p_Weather_hours f_Weather_hours) :
    FnOk P w K mg base (L2.CX P w) 3 f fd ["self", "hour"] (spP K ad 2 G_Weather_check_told) :=
  okX (N := N_Weather_check_told) (s := B_Weather_check_told) F sc_Weather_check_told rfl rfl fun cdv A outer s H E hr =>
    (ss_1 (s_if (pp_tno (pp_tch2 op_le op_le o_le o_le (pp_c pe_int) (pp_v 1 (pv 1)) (pp_prop .Weather (pp_v 0 (pv 0)) T_Weather.cl P_Weather_hours O_Weather_hours (hr.mono (by decide)) b_Weather_hours pass0)))
    (ss_1 (s_raise1 .BadHour rfl (takes_of rfl rfl rfl rfl) PySem.F.excBase_ValueError T_BadHour.x T_BadHour.mg T_BadHour.kp (raises_own T_BadHour.b T_BadHour.t) rfl (pp_joined (.cons (pp_c pe_str) (.cons (pp_fmt (pp_v 1 (pv 1))) (.cons (pp_c pe_str) .nil))))))
    ss_n))

theorem ok_Weather_signs {f : Addr} {fd : FuncData} (F : L2.Fun K "signs" "Weather.signs" s_Weather_signs f fd)
    (T_Weather : S_Weather K mg (ad .Weather))
    (z_enumerate : mg "enumerate" = none)
    (g_DAMP : ∃ u, mg "DAMP" = some u ∧ RelV (.str "#") u)
    (g_DRY : ∃ u, mg "DRY" = some u ∧ RelV (.str ".") u) :
    FnOk P w K mg base CX0 1 f fd ["self"] (spP K ad 1 G_Weather_signs) :=
  ok0 (N := N_Weather_signs) (s := B_Weather_signs) F sc_Weather_signs rfl rfl fun cdv A outer s H E hr =>
    (ss_1 (s_ret (pp_join rfl (pp_c pe_str) (pp_lc (own := [("at", 1), ("length", 2)]) (by rfl) sc_Weather_signs.nd (pi_eT rfl (by rfl) z_enumerate (pp_fld .Weather 0 rfl T_Weather.cl T_Weather.n_lengths (pp_v 0 (pv 0)))) (blkOk_by (N := N_Weather_signs) (sc := defScope s_Weather_signs) (by decide +kernel)) (fun _ _ _ _ _ => (g_t rfl rfl (gs_c (g_n (i := 1) sc_Weather_signs.nd rfl (by first | exact Or.inl rfl | exact Or.inr rfl)) (gs_c (g_n (i := 2) sc_Weather_signs.nd rfl (by first | exact Or.inl rfl | exact Or.inr rfl)) gs_n)))) (fun _ _ _ _ _ => pts_n) (fun _ _ _ _ _ => (pp_2 op_mulS o_mulS (pp_ix rfl (pp_tup (pd_c (pp_c (C8.pe_gc (by rfl) g_DRY)) (pd_c (pp_c (C8.pe_gc (by rfl) g_DAMP)) pd_n))) (pp_2 op_mod o_mod (pp_v 1 (pv 1)) (pp_c pe_int)) (fun _ _ => rfl)) (pp_v 2 (pv 2))))))))

theorem ok_Weather_is_dry {f : Addr} {fd : FuncData} (F : L2.Fun K "is_dry" "Weather.is_dry" s_Weather_is_dry f fd)
    (T_Weather : S_Weather K mg (ad .Weather))
    (g_DRY : ∃ u, mg "DRY" = some u ∧ RelV (.str ".") u)
    {f_Weather_check_told : Addr} {fd_Weather_check_told : FuncData} (O_Weather_check_told : FnOk P w K mg base (L2.CX P w) 3 f_Weather_check_told fd_Weather_check_told ["self", "hour"] (spP K ad 2 G_Weather_check_told)) (b_Weather_check_told : Binds K fd_Weather_check_told ["self", "hour"] []) (M_Weather_check_told : Meth K (ad .Weather) "_check_told" f_Weather_check_told)
    {f_Weather_signs : Addr} {fd_Weather_signs : FuncData} (O_Weather_signs : FnOk P w K mg base CX0 1 f_Weather_signs fd_Weather_signs ["self"] (spP K ad 1 G_Weather_signs)) (b_Weather_signs : Binds K fd_Weather_signs ["self"] []) (M_Weather_signs : Meth K (ad .Weather) "signs" f_Weather_signs) :
    FnOk P w K mg base (L2.CX P w) 4 f fd ["self", "hour"] (spP K ad 2 G_Weather_is_dry) :=
  okX (N := N_Weather_is_dry) (s := B_Weather_is_dry) F sc_Weather_is_dry rfl rfl fun cdv A outer s H E hr =>
    (ss_c (s_ex (pp_methS .Weather (pp_v 0 (pv 0)) T_Weather.cl M_Weather_check_told O_Weather_check_told (takes_of rfl rfl rfl rfl) (hr.mono (by decide)) b_Weather_check_told (pq_c (pp_v 1 (pv 1)) pq_n)))
    (ss_1 (s_ret (pp_cmp (op_eqB hr.units) o_eq (pp_ix rfl (pp_meth0 .Weather (pp_v 0 (pv 0)) T_Weather.cl M_Weather_signs O_Weather_signs (hr.mono (by decide)) b_Weather_signs pass0) (pp_2 op_sub o_sub (pp_v 1 (pv 1)) (pp_c pe_int)) (fun _ _ => rfl)) (pp_c (C8.pe_gc (by rfl) g_DRY)) (nomark _)))))

theorem ok_Weather_iter {f : Addr} {fd : FuncData} (F : L2.Fun K "__iter__" "Weather.__iter__" s_Weather_iter f fd) (T_Weather : S_Weather K mg (ad .Weather)) (z_iter : mg "iter" = none) :
    OW.FnS P w K mg base 1 f fd ["self"] (spIt K (ad .Weather) "lengths") := by
  refine OW.okS F sc_Weather_iter (fun _ vs H Q E h => ?_) (fun cdv A outer s H vs Q E hr h => ?_)
  · obtain ⟨p, dx, t, fs, zs, rfl, _⟩ := h
    rfl
  · obtain ⟨p, dx, t, fs, zs, rfl, hp, hl, hT, q⟩ := h
    exact ⟨_, (pss_one (ps_ret (pe_callB OW.c_iterT (by rfl) z_iter (by decide +kernel) (pa_cons (pe_fld (pv 0) rfl) pa_nil)))), .ref p, rfl, p, _, dx, fs, .ref t, rfl, hp, T_Weather.cl, T_Weather.n_lengths, hl, t, zs, rfl, hT, q⟩

theorem ok_l_int {f : Addr} {fd : FuncData} (F : L2.Fun K "_law_int" "_law_int" s_l_int f fd)
    (z_bool : mg "bool" = none)
    (z_int : mg "int" = none)
    (z_isinstance : mg "isinstance" = none)
    (kit_int_bool : PySem.W.kitOne K (.type "int") (.type "bool") = some false)
    (kit_int_int : PySem.W.kitOne K (.type "int") (.type "int") = some true) :
    FnOk P w K mg base CX0 1 f fd ["x"] (spP K ad 1 G_l_int) :=
  ok0 (N := N_l_int) (s := B_l_int) F sc_l_int rfl rfl fun cdv A outer s H E hr =>
    (ss_1 (s_ret (pp_van (pp_isi rfl (.b kit_int_int .nil) (.ty _) (by rfl) z_isinstance (pp_v 0 (pv 0)) (pe_bltn (v := .ty "int") (by rfl) z_int (by decide +kernel) rfl)) (pe_one (pp_vno (pp_isi rfl (.b kit_int_bool .nil) (.ty _) (by rfl) z_isinstance (pp_v 0 (pv 0)) (pe_bltn (v := .ty "bool") (by rfl) z_bool (by decide +kernel) rfl)))))))

theorem ok_l_lengths {f : Addr} {fd : FuncData} (F : L2.Fun K "_law_lengths" "_law_lengths" s_l_lengths f fd)
    (z_len : mg "len" = none)
    (z_range : mg "range" = none) :
    FnOk P w K mg base CX0 1 f fd ["signs"] (spP K ad 1 G_l_lengths) :=
  ok0 (N := N_l_lengths) (s := B_l_lengths) F sc_l_lengths rfl rfl fun cdv A outer s H E hr =>
    (ss_c (s_setC (i := 1) sc_l_lengths.nd rfl (by first | exact Or.inl rfl | exact Or.inr rfl) (pp_lst (pd_c (pp_c pe_int) pd_n)))
    (ss_c (s_for PassesOwn.never rfl (pi_r2 (by rfl) z_range (pp_c pe_int) (pp_B ob_len (c_lenA rfl) (by rfl) z_len (by decide +kernel) (pd_c (pp_v 0 (pv 0)) pd_n))) (g_n (i := 2) sc_l_lengths.nd rfl (by first | exact Or.inl rfl | exact Or.inr rfl))
    (ss_1 (s_if (pp_tcmp (op_eqB hr.units) o_eq (pp_ix rfl (pp_v 0 (pv 0)) (pp_v 2 (pv 2)) (fun _ _ => rfl)) (pp_ix rfl (pp_v 0 (pv 0)) (pp_2 op_sub o_sub (pp_v 2 (pv 2)) (pp_c pe_int)) (fun _ _ => rfl)) (nomark _))
    (ss_1 (s_setI 1 (pv 1) (pp_1 un_neg o_neg (pp_c pe_int)) (pp_2 op_add o_add (look_v 1 (pp_ix rfl (pp_v 1 (pv 1)) (pp_1 un_neg o_neg (pp_c pe_int)) (fun _ _ => rfl))) (pp_c pe_int))))
    (ss_1 (s_ex (pp_bmL 1 rfl ol_app PySem.F.plainAttrs_list PySem.F.slot_list_append PySem.F.type_list_append mt_append (pv 1) (pd_c (pp_c pe_int) pd_n)))))))
    (ss_1 (s_ret (pp_m 1 (pv 1))))))

theorem ok_l_rows {f : Addr} {fd : FuncData} (F : L2.Fun K "_law_rows" "_law_rows" s_l_rows f fd)
    (z_isinstance : mg "isinstance" = none)
    (z_len : mg "len" = none)
    (z_range : mg "range" = none)
    (z_tuple : mg "tuple" = none)
    (kit_tuple_tuple : PySem.W.kitOne K (.type "tuple") (.type "tuple") = some true)
    {f_l_int : Addr} {fd_l_int : FuncData} (O_l_int : FnOk P w K mg base CX0 1 f_l_int fd_l_int ["x"] (spP K ad 1 G_l_int)) (m_l_int : mg "_law_int" = some (.ref f_l_int)) (k_l_int : PySem.W.keepIn K (.ref f_l_int) = true) (b_l_int : Binds K fd_l_int ["x"] []) :
    FnOk P w K mg base CX0 2 f fd ["actual", "due"] (spP K ad 2 G_l_rows) :=
  ok0 (N := N_l_rows) (s := B_l_rows) F sc_l_rows rfl rfl fun cdv A outer s H E hr =>
    (ss_c (s_if (pp_tcmp (op_neB hr.units) o_ne (pp_B ob_len (c_lenA rfl) (by rfl) z_len (by decide +kernel) (pd_c (pp_v 0 (pv 0)) pd_n)) (pp_B ob_len (c_lenA rfl) (by rfl) z_len (by decide +kernel) (pd_c (pp_v 1 (pv 1)) pd_n)) (nomark _))
    (ss_1 (s_ret (pp_c pe_bl)))
    ss_n)
    (ss_c (s_for PassesOwn.never rfl (pi_r1 (by rfl) z_range (pp_B ob_len (c_lenA rfl) (by rfl) z_len (by decide +kernel) (pd_c (pp_v 1 (pv 1)) pd_n))) (g_n (i := 2) sc_l_rows.nd rfl (by first | exact Or.inl rfl | exact Or.inr rfl))
    (ss_c (s_if (PW.pt (pp_woo (pp_tno (pp_tval (pp_isi rfl (.b kit_tuple_tuple .nil) (.ty _) (by rfl) z_isinstance (pp_ix rfl (pp_v 0 (pv 0)) (pp_v 2 (pv 2)) (fun _ _ => rfl)) (pe_bltn (v := .ty "tuple") (by rfl) z_tuple (by decide +kernel) rfl)))) (pw_or1 (pp_tcmp (op_neB hr.units) o_ne (pp_B ob_len (c_lenA rfl) (by rfl) z_len (by decide +kernel) (pd_c (pp_ix rfl (pp_v 0 (pv 0)) (pp_v 2 (pv 2)) (fun _ _ => rfl)) pd_n)) (pp_B ob_len (c_lenA rfl) (by rfl) z_len (by decide +kernel) (pd_c (pp_ix rfl (pp_v 1 (pv 1)) (pp_v 2 (pv 2)) (fun _ _ => rfl)) pd_n)) (nomark _)))))
    (ss_1 (s_ret (pp_c pe_bl)))
    ss_n)
    (ss_1 (s_for PassesOwn.never rfl (pi_r1 (by rfl) z_range (pp_B ob_len (c_lenA rfl) (by rfl) z_len (by decide +kernel) (pd_c (pp_ix rfl (pp_v 1 (pv 1)) (pp_v 2 (pv 2)) (fun _ _ => rfl)) pd_n))) (g_n (i := 3) sc_l_rows.nd rfl (by first | exact Or.inl rfl | exact Or.inr rfl))
    (ss_1 (s_if (PW.pt (pp_woo (pp_tno (pp_tval (pp_call O_l_int (hr.mono (by decide)) (by rfl) m_l_int k_l_int b_l_int .nil pass0 (pq_c (pp_ix rfl (pp_ix rfl (pp_v 0 (pv 0)) (pp_v 2 (pv 2)) (fun _ _ => rfl)) (pp_v 3 (pv 3)) (fun _ _ => rfl)) pq_n) .nil))) (pw_or1 (pp_tcmp (op_neB hr.units) o_ne (pp_ix rfl (pp_ix rfl (pp_v 0 (pv 0)) (pp_v 2 (pv 2)) (fun _ _ => rfl)) (pp_v 3 (pv 3)) (fun _ _ => rfl)) (pp_ix rfl (pp_ix rfl (pp_v 1 (pv 1)) (pp_v 2 (pv 2)) (fun _ _ => rfl)) (pp_v 3 (pv 3)) (fun _ _ => rfl)) (nomark _)))))
    (ss_1 (s_ret (pp_c pe_bl)))
    ss_n))))))
    (ss_1 (s_ret (pp_c pe_bl)))))

theorem ok_l_tells {f : Addr} {fd : FuncData} (F : L2.Fun K "_law_tells" "_law_tells" s_l_tells f fd)
    (T_Weather : S_Weather K mg (ad .Weather))
    (z_bool : mg "bool" = none)
    (z_isinstance : mg "isinstance" = none)
    (z_len : mg "len" = none)
    (z_list : mg "list" = none)
    (z_str : mg "str" = none)
    (z_tuple : mg "tuple" = none)
    (kit_Weather_Weather : PySem.W.kitOne K (.ref (ad .Weather)) (.ref (ad .Weather)) = some true)
    (kit_bool_bool : PySem.W.kitOne K (.type "bool") (.type "bool") = some true)
    (kit_str_str : PySem.W.kitOne K (.type "str") (.type "str") = some true)
    (kit_tuple_tuple : PySem.W.kitOne K (.type "tuple") (.type "tuple") = some true)
    {f_l_int : Addr} {fd_l_int : FuncData} (O_l_int : FnOk P w K mg base CX0 1 f_l_int fd_l_int ["x"] (spP K ad 1 G_l_int)) (m_l_int : mg "_law_int" = some (.ref f_l_int)) (k_l_int : PySem.W.keepIn K (.ref f_l_int) = true) (b_l_int : Binds K fd_l_int ["x"] [])
    {f_l_lengths : Addr} {fd_l_lengths : FuncData} (O_l_lengths : FnOk P w K mg base CX0 1 f_l_lengths fd_l_lengths ["signs"] (spP K ad 1 G_l_lengths)) (m_l_lengths : mg "_law_lengths" = some (.ref f_l_lengths)) (k_l_lengths : PySem.W.keepIn K (.ref f_l_lengths) = true) (b_l_lengths : Binds K fd_l_lengths ["signs"] [])
    {f_l_rows : Addr} {fd_l_rows : FuncData} (O_l_rows : FnOk P w K mg base CX0 2 f_l_rows fd_l_rows ["actual", "due"] (spP K ad 2 G_l_rows)) (m_l_rows : mg "_law_rows" = some (.ref f_l_rows)) (k_l_rows : PySem.W.keepIn K (.ref f_l_rows) = true) (b_l_rows : Binds K fd_l_rows ["actual", "due"] [])
    {f_Weather_hours : Addr} {fd_Weather_hours : FuncData} (O_Weather_hours : FnOk P w K mg base CX0 1 f_Weather_hours fd_Weather_hours ["self"] (spP K ad 1 G_Weather_hours)) (b_Weather_hours : Binds K fd_Weather_hours ["self"] []) {p_Weather_hours : Addr} (P_Weather_hours : PropOf K (ad .Weather) "hours" p_Weather_hours f_Weather_hours)
    {f_Weather_is_dry : Addr} {fd_Weather_is_dry : FuncData} (O_Weather_is_dry : FnOk P w K mg base (L2.CX P w) 4 f_Weather_is_dry fd_Weather_is_dry ["self", "hour"] (spP K ad 2 G_Weather_is_dry)) (b_Weather_is_dry : Binds K fd_Weather_is_dry ["self", "hour"] []) (M_Weather_is_dry : Meth K (ad .Weather) "is_dry" f_Weather_is_dry)
    {f_Weather_iter : Addr} {fd_Weather_iter : FuncData} (O_Weather_iter : OW.FnS P w K mg base 1 f_Weather_iter fd_Weather_iter ["self"] (spIt K (ad .Weather) "lengths")) (b_Weather_iter : Binds K fd_Weather_iter ["self"] []) (M_Weather_iter : Meth K (ad .Weather) "__iter__" f_Weather_iter)
    {f_Weather_signs : Addr} {fd_Weather_signs : FuncData} (O_Weather_signs : FnOk P w K mg base CX0 1 f_Weather_signs fd_Weather_signs ["self"] (spP K ad 1 G_Weather_signs)) (b_Weather_signs : Binds K fd_Weather_signs ["self"] []) (M_Weather_signs : Meth K (ad .Weather) "signs" f_Weather_signs) :
    FnOk P w K mg base CX0 5 f fd ["weather", "signs"] (spP K ad 2 G_l_tells) :=
  ok0 (N := N_l_tells) (s := B_l_tells) F sc_l_tells rfl rfl fun cdv A outer s H E hr =>
    (ss_c (s_if (PW.pt (pp_woo (pp_tno (pp_tval (pp_isi rfl (.o kit_Weather_Weather T_Weather.ct .nil) (.own _) (by rfl) z_isinstance (pp_v 0 (pv 0)) (C8.pe_gc (v := .ref (ad .Weather)) (by rfl) ⟨_, T_Weather.mg, rfl⟩)))) (pw_or1 (pp_tno (pp_tval (pp_isi rfl (.b kit_tuple_tuple .nil) (.ty _) (by rfl) z_isinstance (pp_fld .Weather 0 rfl T_Weather.cl T_Weather.n_lengths (pp_v 0 (pv 0))) (pe_bltn (v := .ty "tuple") (by rfl) z_tuple (by decide +kernel) rfl)))))))
    (ss_1 (s_ret (pp_c pe_bl)))
    ss_n)
    (ss_c (s_set (i := 2) sc_l_tells.nd rfl (by first | exact Or.inl rfl | exact Or.inr rfl) (pp_T ob_tup (c_tupA rfl) (by rfl) z_tuple (by decide +kernel) (pd_c (pp_call O_l_lengths (hr.mono (by decide)) (by rfl) m_l_lengths k_l_lengths b_l_lengths .nil pass0 (pq_c (pp_v 1 (pv 1)) pq_n) .nil) pd_n)))
    (ss_c (s_if (pp_tno (pp_tval (pp_call O_l_rows (hr.mono (by decide)) (by rfl) m_l_rows k_l_rows b_l_rows .nil pass0 (pq_c (pp_lst (pd_c (pp_fld .Weather 0 rfl T_Weather.cl T_Weather.n_lengths (pp_v 0 (pv 0))) (pd_c (pp_T ob_tup (c_tupA rfl) (by rfl) z_tuple (by decide +kernel) (pd_c (pp_Tc (ob_lstO .Weather 0) (OW.call_listT rfl M_Weather_iter O_Weather_iter (hr.mono (by decide)) b_Weather_iter T_Weather.n___len__ T_Weather.n___length_hint__) (by rfl) z_list (by decide +kernel) (pd_c (pp_v 0 (pv 0)) pd_n)) pd_n)) pd_n))) (pq_c (pp_lst (pd_c (pp_v 2 (pv 2)) (pd_c (pp_v 2 (pv 2)) pd_n))) pq_n)) .nil)))
    (ss_1 (s_ret (pp_c pe_bl)))
    ss_n)
    (ss_c (s_if (PW.pt (pp_woo (pp_tno (pp_tval (pp_call O_l_int (hr.mono (by decide)) (by rfl) m_l_int k_l_int b_l_int .nil pass0 (pq_c (pp_prop .Weather (pp_v 0 (pv 0)) T_Weather.cl P_Weather_hours O_Weather_hours (hr.mono (by decide)) b_Weather_hours pass0) pq_n) .nil))) (pw_or1 (pp_tcmp (op_neB hr.units) o_ne (pp_prop .Weather (pp_v 0 (pv 0)) T_Weather.cl P_Weather_hours O_Weather_hours (hr.mono (by decide)) b_Weather_hours pass0) (pp_B ob_len (c_lenA rfl) (by rfl) z_len (by decide +kernel) (pd_c (pp_v 1 (pv 1)) pd_n)) (nomark _)))))
    (ss_1 (s_ret (pp_c pe_bl)))
    ss_n)
    (ss_c (s_set (i := 3) sc_l_tells.nd rfl (by first | exact Or.inl rfl | exact Or.inr rfl) (pp_meth .Weather (pp_v 0 (pv 0)) T_Weather.cl M_Weather_is_dry O_Weather_is_dry (hr.mono (by decide)) b_Weather_is_dry passL (pq_c (pp_B ob_len (c_lenA rfl) (by rfl) z_len (by decide +kernel) (pd_c (pp_v 1 (pv 1)) pd_n)) pq_n)))
    (ss_c (s_if (PW.pt (pp_woo (pp_tno (pp_tval (pp_isi rfl (.b kit_bool_bool .nil) (.ty _) (by rfl) z_isinstance (pp_v 3 (pv 3)) (pe_bltn (v := .ty "bool") (by rfl) z_bool (by decide +kernel) rfl)))) (pw_or1 (pp_tcmp (op_neB hr.units) o_ne (pp_v 3 (pv 3)) (pp_cmp (op_eqB hr.units) o_eq (pp_ix rfl (pp_v 1 (pv 1)) (pp_1 un_neg o_neg (pp_c pe_int)) (fun _ _ => rfl)) (pp_c pe_str) (nomark _)) (nomark _)))))
    (ss_1 (s_ret (pp_c pe_bl)))
    ss_n)
    (ss_c (s_set (i := 4) sc_l_tells.nd rfl (by first | exact Or.inl rfl | exact Or.inr rfl) (pp_meth0 .Weather (pp_v 0 (pv 0)) T_Weather.cl M_Weather_signs O_Weather_signs (hr.mono (by decide)) b_Weather_signs pass0))
    (ss_1 (s_ret (pp_van (pp_isi rfl (.b kit_str_str .nil) (.ty _) (by rfl) z_isinstance (pp_v 4 (pv 4)) (pe_bltn (v := .ty "str") (by rfl) z_str (by decide +kernel) rfl)) (pe_one (pp_cmp (op_eqB hr.units) o_eq (pp_v 4 (pv 4)) (pp_v 1 (pv 1)) (nomark _)))))))))))))

theorem ok_l_adds {f : Addr} {fd : FuncData} (F : L2.Fun K "_law_adds" "_law_adds" s_l_adds f fd)
    (T_Weather : S_Weather K mg (ad .Weather))
    (z_len : mg "len" = none)
    {f_l_no_weather : Addr} {fd_l_no_weather : FuncData} (O_l_no_weather : FnOk P w K mg base CX0 4 f_l_no_weather fd_l_no_weather ["x", "y", "z", "way"] (spP K ad 4 G_l_no_weather)) (m_l_no_weather : mg "_law_no_weather" = some (.ref f_l_no_weather)) (k_l_no_weather : PySem.W.keepIn K (.ref f_l_no_weather) = true) (b_l_no_weather : Binds K fd_l_no_weather ["x", "y", "z", "way"] [])
    {f_l_tells : Addr} {fd_l_tells : FuncData} (O_l_tells : FnOk P w K mg base CX0 5 f_l_tells fd_l_tells ["weather", "signs"] (spP K ad 2 G_l_tells)) (m_l_tells : mg "_law_tells" = some (.ref f_l_tells)) (k_l_tells : PySem.W.keepIn K (.ref f_l_tells) = true) (b_l_tells : Binds K fd_l_tells ["weather", "signs"] [])
    {f_Weather_add : Addr} {fd_Weather_add : FuncData} (O_Weather_add : FnOk P w K mg base (L2.CX P w) 3 f_Weather_add fd_Weather_add ["self", "other"] (spP K ad 2 G_Weather_add)) (b_Weather_add : Binds K fd_Weather_add ["self", "other"] []) (M_Weather_add : Meth K (ad .Weather) "__add__" f_Weather_add) :
    FnOk P w K mg base CX0 6 f fd ["x", "y", "before", "behind"] (spP K ad 4 G_l_adds) :=
  ok0 (N := N_l_adds) (s := B_l_adds) F sc_l_adds rfl rfl fun cdv A outer s H E hr =>
    (ss_c (s_if (pp_tcmp op_gt o_gt (pp_2 op_add o_add (pp_B ob_len (c_lenA rfl) (by rfl) z_len (by decide +kernel) (pd_c (pp_v 2 (pv 2)) pd_n)) (pp_B ob_len (c_lenA rfl) (by rfl) z_len (by decide +kernel) (pd_c (pp_v 3 (pv 3)) pd_n))) (pp_c pe_int) (nomark _))
    (ss_1 (s_ret (pp_call O_l_no_weather (hr.mono (by decide)) (by rfl) m_l_no_weather k_l_no_weather b_l_no_weather .nil pass0 (pq_c (pp_v 0 (pv 0)) (pq_c (pp_v 1 (pv 1)) (pq_c (pp_v 0 (pv 0)) (pq_c (pp_c pe_int) pq_n)))) .nil)))
    ss_n)
    (ss_1 (s_ret (pp_call O_l_tells (hr.mono (by decide)) (by rfl) m_l_tells k_l_tells b_l_tells .nil pass0 (pq_c (pp_own2 .Weather rfl M_Weather_add T_Weather.sf O_Weather_add (hr.mono (by decide)) b_Weather_add passL (pp_v 0 (pv 0)) (pp_v 1 (pv 1))) (pq_c (pp_2 op_addSS o_addS (pp_v 2 (pv 2)) (pp_v 3 (pv 3))) pq_n)) .nil))))

theorem ok_l_cell {f : Addr} {fd : FuncData} (F : L2.Fun K "_law_cell" "_law_cell" s_l_cell f fd)
    (z_len : mg "len" = none) :
    FnOk P w K mg base CX0 1 f fd ["script", "k"] (spP K ad 2 G_l_cell) :=
  ok0 (N := N_l_cell) (s := B_l_cell) F sc_l_cell rfl rfl fun cdv A outer s H E hr =>
    (ss_c (s_if (pp_tcmp op_lt o_lt (pp_v 1 (pv 1)) (pp_B ob_len (c_lenA rfl) (by rfl) z_len (by decide +kernel) (pd_c (pp_v 0 (pv 0)) pd_n)) (nomark _))
    (ss_1 (s_ret (pp_ix rfl (pp_v 0 (pv 0)) (pp_v 1 (pv 1)) (fun _ _ => rfl))))
    ss_n)
    (ss_1 (s_ret (pp_2 op_add o_add (pp_2 op_mulB o_mul (pp_c pe_int) (pp_v 1 (pv 1))) (pp_c pe_int)))))

theorem ok_Weather_first {f : Addr} {fd : FuncData} (F : L2.Fun K "first" "Weather.first" s_Weather_first f fd)
    (T_Weather : S_Weather K mg (ad .Weather))
    {f_Weather_check_told : Addr} {fd_Weather_check_told : FuncData} (O_Weather_check_told : FnOk P w K mg base (L2.CX P w) 3 f_Weather_check_told fd_Weather_check_told ["self", "hour"] (spP K ad 2 G_Weather_check_told)) (b_Weather_check_told : Binds K fd_Weather_check_told ["self", "hour"] []) (M_Weather_check_told : Meth K (ad .Weather) "_check_told" f_Weather_check_told)
    {f_Weather_of_signs : Addr} {fd_Weather_of_signs : FuncData} (O_Weather_of_signs : FnOk P w K mg base (L2.CX P w) 3 f_Weather_of_signs fd_Weather_of_signs ["signs"] (spP K ad 1 G_Weather_of_signs)) (b_Weather_of_signs : Binds K fd_Weather_of_signs ["signs"] []) {p_Weather_of_signs : Addr} (SM_Weather_of_signs : SMet K (ad .Weather) (.type "type") "of_signs" p_Weather_of_signs f_Weather_of_signs) (k_Weather_of_signs : PySem.W.keepIn K (.ref f_Weather_of_signs) = true)
    {f_Weather_signs : Addr} {fd_Weather_signs : FuncData} (O_Weather_signs : FnOk P w K mg base CX0 1 f_Weather_signs fd_Weather_signs ["self"] (spP K ad 1 G_Weather_signs)) (b_Weather_signs : Binds K fd_Weather_signs ["self"] []) (M_Weather_signs : Meth K (ad .Weather) "signs" f_Weather_signs) :
    FnOk P w K mg base (L2.CX P w) 4 f fd ["self", "n"] (spP K ad 2 G_Weather_first) :=
  okX (N := N_Weather_first) (s := B_Weather_first) F sc_Weather_first rfl rfl fun cdv A outer s H E hr =>
    (ss_c (s_ex (pp_methS .Weather (pp_v 0 (pv 0)) T_Weather.cl M_Weather_check_told O_Weather_check_told (takes_of rfl rfl rfl rfl) (hr.mono (by decide)) b_Weather_check_told (pq_c (pp_v 1 (pv 1)) pq_n)))
    (ss_1 (s_ret (pp_smS .Weather (C8.pe_gc (v := .ref (ad .Weather)) (by rfl) ⟨_, T_Weather.mg, rfl⟩) T_Weather.cr SM_Weather_of_signs k_Weather_of_signs O_Weather_of_signs (takes_of rfl rfl rfl rfl) (hr.mono (by decide)) b_Weather_of_signs (pq_c (pp_sl rfl (pp_meth0 .Weather (pp_v 0 (pv 0)) T_Weather.cl M_Weather_signs O_Weather_signs (hr.mono (by decide)) b_Weather_signs pass0) pp_pn (pp_ps (pp_v 1 (pv 1)))) pq_n)))))

theorem ok_l_no_first {f : Addr} {fd : FuncData} (F : L2.Fun K "_law_no_first" "_law_no_first" s_l_no_first f fd)
    (T_BadHour : S_BadHour K mg (ad .BadHour))
    (T_BadWeather : S_BadWeather K mg (ad .BadWeather))
    (T_DampError : S_DampError K mg (ad .DampError))
    (T_TooLarge : S_TooLarge K mg (ad .TooLarge))
    (T_Weather : S_Weather K mg (ad .Weather))
    (z_ValueError : mg "ValueError" = none)
    (z_isinstance : mg "isinstance" = none)
    (kit_BadHour_BadWeather : PySem.W.kitOne K (.ref (ad .BadHour)) (.ref (ad .BadWeather)) = some false)
    (kit_BadHour_DampError : PySem.W.kitOne K (.ref (ad .BadHour)) (.ref (ad .DampError)) = some true)
    (kit_BadHour_TooLarge : PySem.W.kitOne K (.ref (ad .BadHour)) (.ref (ad .TooLarge)) = some false)
    (kit_BadHour_ValueError : PySem.W.kitOne K (.ref (ad .BadHour)) (.type "ValueError") = some true)
    (xm_BadHour_BadHour : PySem.W.exmOne K (.ref (ad .BadHour)) (.ref (ad .BadHour)) = some true)
    (xm_BadWeather_BadHour : PySem.W.exmOne K (.ref (ad .BadWeather)) (.ref (ad .BadHour)) = some false)
    (xm_DampError_BadHour : PySem.W.exmOne K (.ref (ad .DampError)) (.ref (ad .BadHour)) = some false)
    (xm_TooLarge_BadHour : PySem.W.exmOne K (.ref (ad .TooLarge)) (.ref (ad .BadHour)) = some false)
    {f_Weather_first : Addr} {fd_Weather_first : FuncData} (O_Weather_first : FnOk P w K mg base (L2.CX P w) 4 f_Weather_first fd_Weather_first ["self", "n"] (spP K ad 2 G_Weather_first)) (b_Weather_first : Binds K fd_Weather_first ["self", "n"] []) (M_Weather_first : Meth K (ad .Weather) "first" f_Weather_first) :
    FnOk P w K mg base CX0 5 f fd ["weather", "n"] (spP K ad 2 G_l_no_first) :=
  ok0 (N := N_l_no_first) (s := B_l_no_first) F sc_l_no_first rfl rfl fun cdv A outer s H E hr =>
    (ss_c (s_set (i := 2) sc_l_no_first.nd rfl (by first | exact Or.inl rfl | exact Or.inr rfl) (pp_c pe_bl))
    (ss_c (s_set (i := 3) sc_l_no_first.nd rfl (by first | exact Or.inl rfl | exact Or.inr rfl) (pp_c pe_bl))
    (ss_c (s_tryA (i := 4) rfl rfl rfl sc_l_no_first.nd rfl rfl ⟨rfl, by decide, (.inl T_BadHour.mg)⟩ takes0 (.cons xm_DampError_BadHour (.cons xm_BadWeather_BadHour (.cons xm_BadHour_BadHour (.cons xm_TooLarge_BadHour .nil))))
    (fun W pn xe tk po => (ss_1 (s_ex (pp_methS .Weather (pp_v 0 (pv 0)) T_Weather.cl M_Weather_first O_Weather_first tk (hr.mono (by decide)) b_Weather_first (pq_c (pp_v 1 (pv 1)) pq_n)))))
    (fun a oe cls d pn hz hf => (ss_c (s_set (i := 2) sc_l_no_first.nd rfl (by first | exact Or.inl rfl | exact Or.inr rfl) (pp_c pe_bl))
    (ss_c (s_set (i := 3) sc_l_no_first.nd rfl (by first | exact Or.inl rfl | exact Or.inr rfl) (pp_van (pp_isE 4 rfl hz hf (.o kit_BadHour_DampError T_BadHour.ex .nil) (fun _ h => ClsV.eq ((.own _)) h) (by rfl) z_isinstance (pv 4) (C8.pe_gc (v := .ref (ad .DampError)) (by rfl) ⟨_, T_DampError.mg, rfl⟩)) (pe_one (pp_isE 4 rfl hz hf (.o kit_BadHour_ValueError T_BadHour.ex .nil) (fun _ h => ClsV.eq ((.ty _)) h) (by rfl) z_isinstance (pv 4) (pe_bltn (v := .ty "ValueError") (by rfl) z_ValueError (by decide +kernel) rfl)))))
    (ss_1 (s_set (i := 3) sc_l_no_first.nd rfl (by first | exact Or.inl rfl | exact Or.inr rfl) (pp_van (pp_v 3 (pv 3)) (pp_van (pp_vno (pp_isE 4 rfl hz hf (.o kit_BadHour_TooLarge T_BadHour.ex .nil) (fun _ h => ClsV.eq ((.own _)) h) (by rfl) z_isinstance (pv 4) (C8.pe_gc (v := .ref (ad .TooLarge)) (by rfl) ⟨_, T_TooLarge.mg, rfl⟩))) (pe_one (pp_vno (pp_isE 4 rfl hz hf (.o kit_BadHour_BadWeather T_BadHour.ex .nil) (fun _ h => ClsV.eq ((.own _)) h) (by rfl) z_isinstance (pv 4) (C8.pe_gc (v := .ref (ad .BadWeather)) (by rfl) ⟨_, T_BadWeather.mg, rfl⟩))))))))))))
    (ss_1 (s_ret (pp_van (pp_v 2 (pv 2)) (pe_one (pp_v 3 (pv 3)))))))))

theorem ok_l_cut {f : Addr} {fd : FuncData} (F : L2.Fun K "_law_cut" "_law_cut" s_l_cut f fd)
    (T_Weather : S_Weather K mg (ad .Weather))
    (z_isinstance : mg "isinstance" = none)
    (z_len : mg "len" = none)
    (z_tuple : mg "tuple" = none)
    (kit_tuple_tuple : PySem.W.kitOne K (.type "tuple") (.type "tuple") = some true)
    {f_l_lengths : Addr} {fd_l_lengths : FuncData} (O_l_lengths : FnOk P w K mg base CX0 1 f_l_lengths fd_l_lengths ["signs"] (spP K ad 1 G_l_lengths)) (m_l_lengths : mg "_law_lengths" = some (.ref f_l_lengths)) (k_l_lengths : PySem.W.keepIn K (.ref f_l_lengths) = true) (b_l_lengths : Binds K fd_l_lengths ["signs"] [])
    {f_l_no_first : Addr} {fd_l_no_first : FuncData} (O_l_no_first : FnOk P w K mg base CX0 5 f_l_no_first fd_l_no_first ["weather", "n"] (spP K ad 2 G_l_no_first)) (m_l_no_first : mg "_law_no_first" = some (.ref f_l_no_first)) (k_l_no_first : PySem.W.keepIn K (.ref f_l_no_first) = true) (b_l_no_first : Binds K fd_l_no_first ["weather", "n"] [])
    {f_l_rows : Addr} {fd_l_rows : FuncData} (O_l_rows : FnOk P w K mg base CX0 2 f_l_rows fd_l_rows ["actual", "due"] (spP K ad 2 G_l_rows)) (m_l_rows : mg "_law_rows" = some (.ref f_l_rows)) (k_l_rows : PySem.W.keepIn K (.ref f_l_rows) = true) (b_l_rows : Binds K fd_l_rows ["actual", "due"] [])
    {f_l_tells : Addr} {fd_l_tells : FuncData} (O_l_tells : FnOk P w K mg base CX0 5 f_l_tells fd_l_tells ["weather", "signs"] (spP K ad 2 G_l_tells)) (m_l_tells : mg "_law_tells" = some (.ref f_l_tells)) (k_l_tells : PySem.W.keepIn K (.ref f_l_tells) = true) (b_l_tells : Binds K fd_l_tells ["weather", "signs"] [])
    {f_Weather_first : Addr} {fd_Weather_first : FuncData} (O_Weather_first : FnOk P w K mg base (L2.CX P w) 4 f_Weather_first fd_Weather_first ["self", "n"] (spP K ad 2 G_Weather_first)) (b_Weather_first : Binds K fd_Weather_first ["self", "n"] []) (M_Weather_first : Meth K (ad .Weather) "first" f_Weather_first) :
    FnOk P w K mg base CX0 6 f fd ["weather", "signs", "n"] (spP K ad 3 G_l_cut) :=
  ok0 (N := N_l_cut) (s := B_l_cut) F sc_l_cut rfl rfl fun cdv A outer s H E hr =>
    (ss_c (s_if (PW.pt (pp_woo (pp_tcmp op_lt o_lt (pp_v 2 (pv 2)) (pp_c pe_int) (nomark _)) (pw_or1 (pp_tcmp op_gt o_gt (pp_v 2 (pv 2)) (pp_B ob_len (c_lenA rfl) (by rfl) z_len (by decide +kernel) (pd_c (pp_v 1 (pv 1)) pd_n)) (nomark _)))))
    (ss_1 (s_ret (pp_call O_l_no_first (hr.mono (by decide)) (by rfl) m_l_no_first k_l_no_first b_l_no_first .nil pass0 (pq_c (pp_v 0 (pv 0)) (pq_c (pp_v 2 (pv 2)) pq_n)) .nil)))
    ss_n)
    (ss_c (s_set (i := 3) sc_l_cut.nd rfl (by first | exact Or.inl rfl | exact Or.inr rfl) (pp_meth .Weather (pp_v 0 (pv 0)) T_Weather.cl M_Weather_first O_Weather_first (hr.mono (by decide)) b_Weather_first passL (pq_c (pp_v 2 (pv 2)) pq_n)))
    (ss_c (s_if (PW.pt (pp_woo (pp_tno (pp_tval (pp_call O_l_tells (hr.mono (by decide)) (by rfl) m_l_tells k_l_tells b_l_tells .nil pass0 (pq_c (pp_v 3 (pv 3)) (pq_c (pp_sl rfl (pp_v 1 (pv 1)) pp_pn (pp_ps (pp_v 2 (pv 2)))) pq_n)) .nil))) (pw_or1 (pp_tno (pp_tval (pp_isi rfl (.b kit_tuple_tuple .nil) (.ty _) (by rfl) z_isinstance (pp_fld .Weather 0 rfl T_Weather.cl T_Weather.n_lengths (pp_v 3 (pv 3))) (pe_bltn (v := .ty "tuple") (by rfl) z_tuple (by decide +kernel) rfl)))))))
    (ss_1 (s_ret (pp_c pe_bl)))
    ss_n)
    (ss_1 (s_ret (pp_call O_l_rows (hr.mono (by decide)) (by rfl) m_l_rows k_l_rows b_l_rows .nil pass0 (pq_c (pp_lst (pd_c (pp_fld .Weather 0 rfl T_Weather.cl T_Weather.n_lengths (pp_v 3 (pv 3))) pd_n)) (pq_c (pp_lst (pd_c (pp_call O_l_lengths (hr.mono (by decide)) (by rfl) m_l_lengths k_l_lengths b_l_lengths .nil pass0 (pq_c (pp_sl rfl (pp_v 1 (pv 1)) pp_pn (pp_ps (pp_v 2 (pv 2)))) pq_n) .nil) pd_n)) pq_n)) .nil))))))

theorem ok_Weather_eq {f : Addr} {fd : FuncData} (F : L2.Fun K "__eq__" "Weather.__eq__" s_Weather_eq f fd)
    (T_Weather : S_Weather K mg (ad .Weather))
    (z_isinstance : mg "isinstance" = none)
    (kit_Weather_Weather : PySem.W.kitOne K (.ref (ad .Weather)) (.ref (ad .Weather)) = some true) :
    FnOk P w K mg base CX0 1 f fd ["self", "other"] (spP K ad 2 G_Weather_eq) :=
  ok0 (N := N_Weather_eq) (s := B_Weather_eq) F sc_Weather_eq rfl rfl fun cdv A outer s H E hr =>
    (ss_1 (s_ret (pp_van (pp_isi rfl (.o kit_Weather_Weather T_Weather.ct .nil) (.own _) (by rfl) z_isinstance (pp_v 1 (pv 1)) (C8.pe_gc (v := .ref (ad .Weather)) (by rfl) ⟨_, T_Weather.mg, rfl⟩)) (pe_one (pp_cmp (op_eqB hr.units) o_eq (pp_fld .Weather 0 rfl T_Weather.cl T_Weather.n_lengths (pp_v 0 (pv 0))) (pp_fld .Weather 0 rfl T_Weather.cl T_Weather.n_lengths (pp_v 1 (pv 1))) (nomark _))))))

theorem ok_l_equals {f : Addr} {fd : FuncData} (F : L2.Fun K "_law_equals" "_law_equals" s_l_equals f fd)
    (T_Weather : S_Weather K mg (ad .Weather))
    (z_bool : mg "bool" = none)
    (z_isinstance : mg "isinstance" = none)
    (kit_bool_bool : PySem.W.kitOne K (.type "bool") (.type "bool") = some true)
    {f_Weather_eq : Addr} {fd_Weather_eq : FuncData} (O_Weather_eq : FnOk P w K mg base CX0 1 f_Weather_eq fd_Weather_eq ["self", "other"] (spP K ad 2 G_Weather_eq)) (b_Weather_eq : Binds K fd_Weather_eq ["self", "other"] []) (M_Weather_eq : Meth K (ad .Weather) "__eq__" f_Weather_eq) :
    FnOk P w K mg base CX0 2 f fd ["one", "other", "due"] (spP K ad 3 G_l_equals) :=
  ok0 (N := N_l_equals) (s := B_l_equals) F sc_l_equals rfl rfl fun cdv A outer s H E hr =>
    (ss_c (s_set (i := 3) sc_l_equals.nd rfl (by first | exact Or.inl rfl | exact Or.inr rfl) (pp_owncmp .Weather rfl (fun _ _ => rfl) M_Weather_eq T_Weather.nf O_Weather_eq (hr.mono (by decide)) b_Weather_eq pass0 (pp_v 0 (pv 0)) (pp_v 1 (pv 1)) (nomark _)))
    (ss_1 (s_ret (pp_van (pp_isi rfl (.b kit_bool_bool .nil) (.ty _) (by rfl) z_isinstance (pp_v 3 (pv 3)) (pe_bltn (v := .ty "bool") (by rfl) z_bool (by decide +kernel) rfl)) (pe_one (pp_cmp (op_eqB hr.units) o_eq (pp_v 3 (pv 3)) (pp_v 2 (pv 2)) (nomark _)))))))

theorem ok_Weather_runs {f : Addr} {fd : FuncData} (F : L2.Fun K "runs" "Weather.runs" s_Weather_runs f fd) (T_Weather : S_Weather K mg (ad .Weather)) (z_enumerate : mg "enumerate" = none) :
    GFn P w K mg base 1 f fd ["self"] (spG K ad 1 3 B_Weather_runs) :=
  okG (N := N_Weather_runs) F sc_Weather_runs rfl rfl fun cdv A outer s H E pn hr =>
    (g_c (g_p (s_set (i := 1) sc_Weather_runs.nd rfl (by first | exact Or.inl rfl | exact Or.inr rfl) (pp_c pe_int)))
    (g_c (g_for owns_gcx rfl (pi_eT rfl (by rfl) z_enumerate (pp_fld .Weather 0 rfl T_Weather.cl T_Weather.n_lengths (pp_v 0 (pv 0)))) (g_t rfl rfl (gs_c (g_n (i := 2) sc_Weather_runs.nd rfl (by first | exact Or.inl rfl | exact Or.inr rfl)) (gs_c (g_n (i := 3) sc_Weather_runs.nd rfl (by first | exact Or.inl rfl | exact Or.inr rfl)) gs_n)))
    (g_c (g_if (pp_tcmp (op_eqB hr.units) o_eq (pp_2 op_mod o_mod (pp_v 2 (pv 2)) (pp_c pe_int)) (pp_c pe_int) (nomark _))
    (g_c (g_y (pp_tup (pd_c (pp_v 1 (pv 1)) (pd_c (pp_v 3 (pv 3)) pd_n))))
    g_nil)
    g_nil)
    (g_c (g_p (s_set (i := 1) sc_Weather_runs.nd rfl (by first | exact Or.inl rfl | exact Or.inr rfl) (pp_2 op_add o_add (pp_v 1 (pv 1)) (pp_v 3 (pv 3)))))
    g_nil)))
    g_nil))

theorem ok_Weather_spells {f : Addr} {fd : FuncData} (F : L2.Fun K "spells" "Weather.spells" s_Weather_spells f fd) (T_Weather : S_Weather K mg (ad .Weather)) (z_zip : mg "zip" = none) :
    GFn P w K mg base 1 f fd ["self"] (spG K ad 1 3 B_Weather_spells) :=
  okG (N := N_Weather_spells) F sc_Weather_spells rfl rfl fun cdv A outer s H E pn hr =>
    (g_c (g_p (s_set (i := 1) sc_Weather_spells.nd rfl (by first | exact Or.inl rfl | exact Or.inr rfl) (pp_c pe_int)))
    (g_c (g_for owns_gcx rfl (pi_z rfl (by rfl) z_zip (pp_st rfl (pp_fld .Weather 0 rfl T_Weather.cl T_Weather.n_lengths (pp_v 0 (pv 0))) (.ev _ _)) (pp_st rfl (pp_fld .Weather 0 rfl T_Weather.cl T_Weather.n_lengths (pp_v 0 (pv 0))) (.od _ _ _ _))) (g_t rfl rfl (gs_c (g_n (i := 2) sc_Weather_spells.nd rfl (by first | exact Or.inl rfl | exact Or.inr rfl)) (gs_c (g_n (i := 3) sc_Weather_spells.nd rfl (by first | exact Or.inl rfl | exact Or.inr rfl)) gs_n)))
    (g_c (g_y (pp_tup (pd_c (pp_2 op_add o_add (pp_v 1 (pv 1)) (pp_v 2 (pv 2))) (pd_c (pp_v 3 (pv 3)) (pd_c (pp_v 2 (pv 2)) pd_n)))))
    (g_c (g_p (s_set (i := 1) sc_Weather_spells.nd rfl (by first | exact Or.inl rfl | exact Or.inr rfl) (pp_2 op_add o_add (pp_2 op_add o_add (pp_v 1 (pv 1)) (pp_v 2 (pv 2))) (pp_v 3 (pv 3)))))
    g_nil)))
    g_nil))

theorem ok_l_runs {f : Addr} {fd : FuncData} (F : L2.Fun K "_law_runs" "_law_runs" s_l_runs f fd)
    (z_len : mg "len" = none)
    (z_range : mg "range" = none) :
    FnOk P w K mg base CX0 1 f fd ["signs"] (spP K ad 1 G_l_runs) :=
  ok0 (N := N_l_runs) (s := B_l_runs) F sc_l_runs rfl rfl fun cdv A outer s H E hr =>
    (ss_c (s_setC (i := 1) sc_l_runs.nd rfl (by first | exact Or.inl rfl | exact Or.inr rfl) (pp_lst pd_n))
    (ss_c (s_for PassesOwn.never rfl (pi_r1 (by rfl) z_range (pp_B ob_len (c_lenA rfl) (by rfl) z_len (by decide +kernel) (pd_c (pp_v 0 (pv 0)) pd_n))) (g_n (i := 2) sc_l_runs.nd rfl (by first | exact Or.inl rfl | exact Or.inr rfl))
    (ss_1 (s_if (PW.pt (pp_wan (pp_tcmp (op_eqB hr.units) o_eq (pp_ix rfl (pp_v 0 (pv 0)) (pp_v 2 (pv 2)) (fun _ _ => rfl)) (pp_c pe_str) (nomark _)) (pw_and1 (PW.pt (pp_woo (pp_tcmp (op_eqB hr.units) o_eq (pp_v 2 (pv 2)) (pp_c pe_int) (nomark _)) (pw_or1 (pp_tcmp (op_eqB hr.units) o_eq (pp_ix rfl (pp_v 0 (pv 0)) (pp_2 op_sub o_sub (pp_v 2 (pv 2)) (pp_c pe_int)) (fun _ _ => rfl)) (pp_c pe_str) (nomark _))))))))
    (ss_c (s_set (i := 3) sc_l_runs.nd rfl (by first | exact Or.inl rfl | exact Or.inr rfl) (pp_txm os_find3 PySem.F.slot_str_find PySem.F.type_str_find mt_find3 (pp_v 0 (pv 0)) (pd_c (pp_c pe_str) (pd_c (pp_v 2 (pv 2)) pd_n))))
    (ss_c (s_if (pp_tcmp op_lt o_lt (pp_v 3 (pv 3)) (pp_c pe_int) (nomark _))
    (ss_1 (s_set (i := 3) sc_l_runs.nd rfl (by first | exact Or.inl rfl | exact Or.inr rfl) (pp_B ob_len (c_lenA rfl) (by rfl) z_len (by decide +kernel) (pd_c (pp_v 0 (pv 0)) pd_n))))
    ss_n)
    (ss_1 (s_ex (pp_bmL 1 rfl ol_app PySem.F.plainAttrs_list PySem.F.slot_list_append PySem.F.type_list_append mt_append (pv 1) (pd_c (pp_tup (pd_c (pp_2 op_add o_add (pp_v 2 (pv 2)) (pp_c pe_int)) (pd_c (pp_2 op_sub o_sub (pp_v 3 (pv 3)) (pp_v 2 (pv 2))) pd_n))) pd_n))))))
    ss_n)))
    (ss_1 (s_ret (pp_m 1 (pv 1))))))

theorem ok_l_spells {f : Addr} {fd : FuncData} (F : L2.Fun K "_law_spells" "_law_spells" s_l_spells f fd)
    (z_len : mg "len" = none)
    (z_range : mg "range" = none) :
    FnOk P w K mg base CX0 1 f fd ["signs"] (spP K ad 1 G_l_spells) :=
  ok0 (N := N_l_spells) (s := B_l_spells) F sc_l_spells rfl rfl fun cdv A outer s H E hr =>
    (ss_c (s_setC (i := 1) sc_l_spells.nd rfl (by first | exact Or.inl rfl | exact Or.inr rfl) (pp_lst pd_n))
    (ss_c (s_for PassesOwn.never rfl (pi_r2 (by rfl) z_range (pp_c pe_int) (pp_B ob_len (c_lenA rfl) (by rfl) z_len (by decide +kernel) (pd_c (pp_v 0 (pv 0)) pd_n))) (g_n (i := 2) sc_l_spells.nd rfl (by first | exact Or.inl rfl | exact Or.inr rfl))
    (ss_1 (s_if (PW.pt (pp_wan (pp_tcmp (op_eqB hr.units) o_eq (pp_ix rfl (pp_v 0 (pv 0)) (pp_v 2 (pv 2)) (fun _ _ => rfl)) (pp_c pe_str) (nomark _)) (pw_and1 (pp_tcmp (op_eqB hr.units) o_eq (pp_ix rfl (pp_v 0 (pv 0)) (pp_2 op_sub o_sub (pp_v 2 (pv 2)) (pp_c pe_int)) (fun _ _ => rfl)) (pp_c pe_str) (nomark _)))))
    (ss_c (s_set (i := 3) sc_l_spells.nd rfl (by first | exact Or.inl rfl | exact Or.inr rfl) (pp_txm os_find3 PySem.F.slot_str_find PySem.F.type_str_find mt_find3 (pp_v 0 (pv 0)) (pd_c (pp_c pe_str) (pd_c (pp_v 2 (pv 2)) pd_n))))
    (ss_c (s_if (pp_tcmp op_lt o_lt (pp_v 3 (pv 3)) (pp_c pe_int) (nomark _))
    (ss_1 (s_set (i := 3) sc_l_spells.nd rfl (by first | exact Or.inl rfl | exact Or.inr rfl) (pp_B ob_len (c_lenA rfl) (by rfl) z_len (by decide +kernel) (pd_c (pp_v 0 (pv 0)) pd_n))))
    ss_n)
    (ss_1 (s_ex (pp_bmL 1 rfl ol_app PySem.F.plainAttrs_list PySem.F.slot_list_append PySem.F.type_list_append mt_append (pv 1) (pd_c (pp_tup (pd_c (pp_2 op_add o_add (pp_v 2 (pv 2)) (pp_c pe_int)) (pd_c (pp_2 op_sub o_sub (pp_v 3 (pv 3)) (pp_v 2 (pv 2))) (pd_c (pp_2 op_sub o_sub (pp_2 op_sub o_sub (pp_v 2 (pv 2)) (pp_c pe_int)) (pp_txm os_rfind4 PySem.F.slot_str_rfind PySem.F.type_str_rfind mt_rfind4 (pp_v 0 (pv 0)) (pd_c (pp_c pe_str) (pd_c (pp_c pe_int) (pd_c (pp_v 2 (pv 2)) pd_n))))) pd_n)))) pd_n))))))
    ss_n)))
    (ss_1 (s_ret (pp_m 1 (pv 1))))))

theorem ok_l_parts {f : Addr} {fd : FuncData} (F : L2.Fun K "_law_parts" "_law_parts" s_l_parts f fd)
    (T_Weather : S_Weather K mg (ad .Weather))
    (z_list : mg "list" = none)
    {f_l_rows : Addr} {fd_l_rows : FuncData} (O_l_rows : FnOk P w K mg base CX0 2 f_l_rows fd_l_rows ["actual", "due"] (spP K ad 2 G_l_rows)) (m_l_rows : mg "_law_rows" = some (.ref f_l_rows)) (k_l_rows : PySem.W.keepIn K (.ref f_l_rows) = true) (b_l_rows : Binds K fd_l_rows ["actual", "due"] [])
    {f_l_runs : Addr} {fd_l_runs : FuncData} (O_l_runs : FnOk P w K mg base CX0 1 f_l_runs fd_l_runs ["signs"] (spP K ad 1 G_l_runs)) (m_l_runs : mg "_law_runs" = some (.ref f_l_runs)) (k_l_runs : PySem.W.keepIn K (.ref f_l_runs) = true) (b_l_runs : Binds K fd_l_runs ["signs"] [])
    {f_l_spells : Addr} {fd_l_spells : FuncData} (O_l_spells : FnOk P w K mg base CX0 1 f_l_spells fd_l_spells ["signs"] (spP K ad 1 G_l_spells)) (m_l_spells : mg "_law_spells" = some (.ref f_l_spells)) (k_l_spells : PySem.W.keepIn K (.ref f_l_spells) = true) (b_l_spells : Binds K fd_l_spells ["signs"] [])
    {f_l_tells : Addr} {fd_l_tells : FuncData} (O_l_tells : FnOk P w K mg base CX0 5 f_l_tells fd_l_tells ["weather", "signs"] (spP K ad 2 G_l_tells)) (m_l_tells : mg "_law_tells" = some (.ref f_l_tells)) (k_l_tells : PySem.W.keepIn K (.ref f_l_tells) = true) (b_l_tells : Binds K fd_l_tells ["weather", "signs"] [])
    {f_Weather_runs : Addr} {fd_Weather_runs : FuncData} (O_Weather_runs : GFn P w K mg base 1 f_Weather_runs fd_Weather_runs ["self"] (spG K ad 1 3 B_Weather_runs)) (b_Weather_runs : Binds K fd_Weather_runs ["self"] []) (M_Weather_runs : Meth K (ad .Weather) "runs" f_Weather_runs)
    {f_Weather_spells : Addr} {fd_Weather_spells : FuncData} (O_Weather_spells : GFn P w K mg base 1 f_Weather_spells fd_Weather_spells ["self"] (spG K ad 1 3 B_Weather_spells)) (b_Weather_spells : Binds K fd_Weather_spells ["self"] []) (M_Weather_spells : Meth K (ad .Weather) "spells" f_Weather_spells) :
    FnOk P w K mg base CX0 6 f fd ["weather", "signs"] (spP K ad 2 G_l_parts) :=
  ok0 (N := N_l_parts) (s := B_l_parts) F sc_l_parts rfl rfl fun cdv A outer s H E hr =>
    (ss_c (s_if (pp_tno (pp_tval (pp_call O_l_tells (hr.mono (by decide)) (by rfl) m_l_tells k_l_tells b_l_tells .nil pass0 (pq_c (pp_v 0 (pv 0)) (pq_c (pp_v 1 (pv 1)) pq_n)) .nil)))
    (ss_1 (s_ret (pp_c pe_bl)))
    ss_n)
    (ss_c (s_set (i := 2) sc_l_parts.nd rfl (by first | exact Or.inl rfl | exact Or.inr rfl) (pp_call O_l_runs (hr.mono (by decide)) (by rfl) m_l_runs k_l_runs b_l_runs .nil pass0 (pq_c (pp_v 1 (pv 1)) pq_n) .nil))
    (ss_c (s_set (i := 3) sc_l_parts.nd rfl (by first | exact Or.inl rfl | exact Or.inr rfl) (pp_call O_l_spells (hr.mono (by decide)) (by rfl) m_l_spells k_l_spells b_l_spells .nil pass0 (pq_c (pp_v 1 (pv 1)) pq_n) .nil))
    (ss_c (s_if (PW.pt (pp_woo (pp_tno (pp_tval (pp_call O_l_rows (hr.mono (by decide)) (by rfl) m_l_rows k_l_rows b_l_rows .nil pass0 (pq_c (pp_lstGM .Weather (pp_v 0 (pv 0)) T_Weather.cl M_Weather_runs O_Weather_runs (hr.mono (by decide)) b_Weather_runs passG (by rfl) z_list (by decide +kernel)) (pq_c (pp_v 2 (pv 2)) pq_n)) .nil))) (pw_or1 (pp_tno (pp_tval (pp_call O_l_rows (hr.mono (by decide)) (by rfl) m_l_rows k_l_rows b_l_rows .nil pass0 (pq_c (pp_lstGM .Weather (pp_v 0 (pv 0)) T_Weather.cl M_Weather_spells O_Weather_spells (hr.mono (by decide)) b_Weather_spells passG (by rfl) z_list (by decide +kernel)) (pq_c (pp_v 3 (pv 3)) pq_n)) .nil))))))
    (ss_1 (s_ret (pp_c pe_bl)))
    ss_n)
    (ss_1 (s_ret (pp_van (pp_call O_l_rows (hr.mono (by decide)) (by rfl) m_l_rows k_l_rows b_l_rows .nil pass0 (pq_c (pp_lstGM .Weather (pp_v 0 (pv 0)) T_Weather.cl M_Weather_spells O_Weather_spells (hr.mono (by decide)) b_Weather_spells passG (by rfl) z_list (by decide +kernel)) (pq_c (pp_v 3 (pv 3)) pq_n)) .nil) (pe_one (pp_call O_l_rows (hr.mono (by decide)) (by rfl) m_l_rows k_l_rows b_l_rows .nil pass0 (pq_c (pp_lstGM .Weather (pp_v 0 (pv 0)) T_Weather.cl M_Weather_runs O_Weather_runs (hr.mono (by decide)) b_Weather_runs passG (by rfl) z_list (by decide +kernel)) (pq_c (pp_v 2 (pv 2)) pq_n)) .nil)))))))))

theorem ok_l_joins {f : Addr} {fd : FuncData} (F : L2.Fun K "_law_joins" "_law_joins" s_l_joins f fd)
    (T_Weather : S_Weather K mg (ad .Weather))
    (z_len : mg "len" = none)
    {f_l_cut : Addr} {fd_l_cut : FuncData} (O_l_cut : FnOk P w K mg base CX0 6 f_l_cut fd_l_cut ["weather", "signs", "n"] (spP K ad 3 G_l_cut)) (m_l_cut : mg "_law_cut" = some (.ref f_l_cut)) (k_l_cut : PySem.W.keepIn K (.ref f_l_cut) = true) (b_l_cut : Binds K fd_l_cut ["weather", "signs", "n"] [])
    {f_l_equals : Addr} {fd_l_equals : FuncData} (O_l_equals : FnOk P w K mg base CX0 2 f_l_equals fd_l_equals ["one", "other", "due"] (spP K ad 3 G_l_equals)) (m_l_equals : mg "_law_equals" = some (.ref f_l_equals)) (k_l_equals : PySem.W.keepIn K (.ref f_l_equals) = true) (b_l_equals : Binds K fd_l_equals ["one", "other", "due"] [])
    {f_l_lengths : Addr} {fd_l_lengths : FuncData} (O_l_lengths : FnOk P w K mg base CX0 1 f_l_lengths fd_l_lengths ["signs"] (spP K ad 1 G_l_lengths)) (m_l_lengths : mg "_law_lengths" = some (.ref f_l_lengths)) (k_l_lengths : PySem.W.keepIn K (.ref f_l_lengths) = true) (b_l_lengths : Binds K fd_l_lengths ["signs"] [])
    {f_l_no_weather : Addr} {fd_l_no_weather : FuncData} (O_l_no_weather : FnOk P w K mg base CX0 4 f_l_no_weather fd_l_no_weather ["x", "y", "z", "way"] (spP K ad 4 G_l_no_weather)) (m_l_no_weather : mg "_law_no_weather" = some (.ref f_l_no_weather)) (k_l_no_weather : PySem.W.keepIn K (.ref f_l_no_weather) = true) (b_l_no_weather : Binds K fd_l_no_weather ["x", "y", "z", "way"] [])
    {f_l_parts : Addr} {fd_l_parts : FuncData} (O_l_parts : FnOk P w K mg base CX0 6 f_l_parts fd_l_parts ["weather", "signs"] (spP K ad 2 G_l_parts)) (m_l_parts : mg "_law_parts" = some (.ref f_l_parts)) (k_l_parts : PySem.W.keepIn K (.ref f_l_parts) = true) (b_l_parts : Binds K fd_l_parts ["weather", "signs"] [])
    {f_Weather_add : Addr} {fd_Weather_add : FuncData} (O_Weather_add : FnOk P w K mg base (L2.CX P w) 3 f_Weather_add fd_Weather_add ["self", "other"] (spP K ad 2 G_Weather_add)) (b_Weather_add : Binds K fd_Weather_add ["self", "other"] []) (M_Weather_add : Meth K (ad .Weather) "__add__" f_Weather_add)
    {f_Weather_first : Addr} {fd_Weather_first : FuncData} (O_Weather_first : FnOk P w K mg base (L2.CX P w) 4 f_Weather_first fd_Weather_first ["self", "n"] (spP K ad 2 G_Weather_first)) (b_Weather_first : Binds K fd_Weather_first ["self", "n"] []) (M_Weather_first : Meth K (ad .Weather) "first" f_Weather_first)
    {f_Weather_init : Addr} {fd_Weather_init : FuncData} (O_Weather_init : FnOk P w K mg base (L2.CX P w) 1 f_Weather_init fd_Weather_init ["self", "lengths"] (spP K ad 2 G_Weather_init)) (b_Weather_init : Binds K fd_Weather_init ["self", "lengths"] []) (I_Weather : Mk K (ad .Weather) f_Weather_init) :
    FnOk P w K mg base CX0 7 f fd ["x", "y", "before", "behind", "at"] (spP K ad 5 G_l_joins) :=
  ok0 (N := N_l_joins) (s := B_l_joins) F sc_l_joins rfl rfl fun cdv A outer s H E hr =>
    (ss_c (s_if (pp_tcmp op_gt o_gt (pp_2 op_add o_add (pp_B ob_len (c_lenA rfl) (by rfl) z_len (by decide +kernel) (pd_c (pp_v 2 (pv 2)) pd_n)) (pp_B ob_len (c_lenA rfl) (by rfl) z_len (by decide +kernel) (pd_c (pp_v 3 (pv 3)) pd_n))) (pp_c pe_int) (nomark _))
    (ss_1 (s_ret (pp_call O_l_no_weather (hr.mono (by decide)) (by rfl) m_l_no_weather k_l_no_weather b_l_no_weather .nil pass0 (pq_c (pp_v 0 (pv 0)) (pq_c (pp_v 1 (pv 1)) (pq_c (pp_v 0 (pv 0)) (pq_c (pp_c pe_int) pq_n)))) .nil)))
    ss_n)
    (ss_c (s_set (i := 5) sc_l_joins.nd rfl (by first | exact Or.inl rfl | exact Or.inr rfl) (pp_own2 .Weather rfl M_Weather_add T_Weather.sf O_Weather_add (hr.mono (by decide)) b_Weather_add passL (pp_v 0 (pv 0)) (pp_v 1 (pv 1))))
    (ss_c (s_if (PW.pt (pp_woo (pp_tno (pp_tval (pp_call O_l_parts (hr.mono (by decide)) (by rfl) m_l_parts k_l_parts b_l_parts .nil pass0 (pq_c (pp_v 5 (pv 5)) (pq_c (pp_2 op_addSS o_addS (pp_v 2 (pv 2)) (pp_v 3 (pv 3))) pq_n)) .nil))) (pw_or1 (pp_tno (pp_tval (pp_call O_l_cut (hr.mono (by decide)) (by rfl) m_l_cut k_l_cut b_l_cut .nil pass0 (pq_c (pp_v 5 (pv 5)) (pq_c (pp_2 op_addSS o_addS (pp_v 2 (pv 2)) (pp_v 3 (pv 3))) (pq_c (pp_v 4 (pv 4)) pq_n))) .nil))))))
    (ss_1 (s_ret (pp_c pe_bl)))
    ss_n)
    (ss_c (s_if (pp_tno (pp_tval (pp_call O_l_equals (hr.mono (by decide)) (by rfl) m_l_equals k_l_equals b_l_equals .nil pass0 (pq_c (pp_v 5 (pv 5)) (pq_c (pp_make .Weather I_Weather O_Weather_init (hr.mono (by decide)) (by rfl) T_Weather.mg b_Weather_init .nil passL (pq_c (pp_call O_l_lengths (hr.mono (by decide)) (by rfl) m_l_lengths k_l_lengths b_l_lengths .nil pass0 (pq_c (pp_2 op_addSS o_addS (pp_v 2 (pv 2)) (pp_v 3 (pv 3))) pq_n) .nil) pq_n) .nil) (pq_c (pp_c pe_bl) pq_n))) .nil)))
    (ss_1 (s_ret (pp_c pe_bl)))
    ss_n)
    (ss_1 (s_ret (pp_call O_l_equals (hr.mono (by decide)) (by rfl) m_l_equals k_l_equals b_l_equals .nil pass0 (pq_c (pp_meth .Weather (pp_v 5 (pv 5)) T_Weather.cl M_Weather_first O_Weather_first (hr.mono (by decide)) b_Weather_first passL (pq_c (pp_B ob_len (c_lenA rfl) (by rfl) z_len (by decide +kernel) (pd_c (pp_v 2 (pv 2)) pd_n)) pq_n)) (pq_c (pp_v 0 (pv 0)) (pq_c (pp_c pe_bl) pq_n))) .nil)))))))

theorem ok_l_pool {f : Addr} {fd : FuncData} (F : L2.Fun K "_law_pool" "_law_pool" s_l_pool f fd)
    (z_int : mg "int" = none) :
    FnOk P w K mg base CX0 1 f fd ["cell"] (spP K ad 1 G_l_pool) :=
  ok0 (N := N_l_pool) (s := B_l_pool) F sc_l_pool rfl rfl fun cdv A outer s H E hr =>
    (ss_c (s_if (pp_tcmp op_ge o_ge (pp_v 0 (pv 0)) (pp_2 op_pow o_pow (pp_c pe_int) (pp_c pe_int)) (nomark _))
    (ss_1 (s_ret (pp_lst (pd_c (pp_2 op_sub o_sub (pp_v 0 (pv 0)) (pp_2 op_pow o_pow (pp_c pe_int) (pp_c pe_int))) (pd_c (pp_2 op_mod o_mod (pp_T ob_int OW.c_int1 (by rfl) z_int (by decide +kernel) (pd_c (pp_v 0 (pv 0)) pd_n)) (pp_c pe_int)) (pd_c (pp_c pe_int) pd_n))))))
    ss_n)
    (ss_c (s_if (pp_tcmp op_lt o_lt (pp_v 0 (pv 0)) (pp_c pe_int) (nomark _))
    (ss_1 (s_ret (pp_lst (pd_c (pp_c pe_int) (pd_c (pp_2 op_mod o_mod (pp_T ob_int OW.c_int1 (by rfl) z_int (by decide +kernel) (pd_c (pp_2 op_sub o_sub (pp_c pe_int) (pp_2 op_mulB o_mul (pp_c pe_int) (pp_v 0 (pv 0)))) pd_n)) (pp_c pe_int)) (pd_c (pp_c pe_int) pd_n))))))
    ss_n)
    (ss_1 (s_ret (pp_lst (pd_c (pp_c pe_int) (pd_c (pp_2 op_mod o_mod (pp_T ob_int OW.c_int1 (by rfl) z_int (by decide +kernel) (pd_c (pp_2 op_mulB o_mul (pp_c pe_int) (pp_v 0 (pv 0))) pd_n)) (pp_c pe_int)) (pd_c (pp_c pe_int) pd_n))))))))

theorem ok_l_take {f : Addr} {fd : FuncData} (F : L2.Fun K "_law_take" "_law_take" s_l_take f fd)
    (z_int : mg "int" = none) :
    FnOk P w K mg base CX0 1 f fd ["pool", "size"] (spP K ad 2 G_l_take) :=
  ok0 (N := N_l_take) (s := B_l_take) F sc_l_take rfl rfl fun cdv A outer s H E hr =>
    (ss_c (s_setI 0 (pv 0) (pp_c pe_int) (pp_2 op_add o_add (look_v 0 (pp_ix rfl (pp_v 0 (pv 0)) (pp_c pe_int) (fun _ _ => rfl))) (pp_c pe_int)))
    (ss_c (s_if (pp_tcmp op_gt o_gt (look_v 0 (pp_ix rfl (pp_v 0 (pv 0)) (pp_c pe_int) (fun _ _ => rfl))) (pp_c pe_int) (nomark _))
    (ss_c (s_set (i := 2) sc_l_take.nd rfl (by first | exact Or.inl rfl | exact Or.inr rfl) (pp_2 op_mod o_mod (pp_T ob_int OW.c_int1 (by rfl) z_int (by decide +kernel) (pd_c (look_v 0 (pp_ix rfl (pp_v 0 (pv 0)) (pp_c pe_int) (fun _ _ => rfl))) pd_n)) (pp_v 1 (pv 1))))
    (ss_c (s_setI 0 (pv 0) (pp_c pe_int) (pp_2 op_divB o_div (look_v 0 (pp_ix rfl (pp_v 0 (pv 0)) (pp_c pe_int) (fun _ _ => rfl))) (pp_v 1 (pv 1))))
    (ss_1 (s_ret (pp_v 2 (pv 2))))))
    ss_n)
    (ss_c (s_set (i := 3) sc_l_take.nd rfl (by first | exact Or.inl rfl | exact Or.inr rfl) (pp_2 op_mod o_mod (pp_T ob_int OW.c_int1 (by rfl) z_int (by decide +kernel) (pd_c (pp_2 op_add o_add (pp_2 op_add o_add (look_v 0 (pp_ix rfl (pp_v 0 (pv 0)) (pp_c pe_int) (fun _ _ => rfl))) (pp_2 op_mulB o_mul (pp_c pe_int) (look_v 0 (pp_ix rfl (pp_v 0 (pv 0)) (pp_c pe_int) (fun _ _ => rfl))))) (pp_c pe_int)) pd_n)) (pp_c pe_int)))
    (ss_c (s_set (i := 3) sc_l_take.nd rfl (by first | exact Or.inl rfl | exact Or.inr rfl) (pp_2 op_mod o_mod (pp_T ob_int OW.c_int1 (by rfl) z_int (by decide +kernel) (pd_c (pp_2 op_add o_add (pp_2 op_add o_add (pp_2 op_mulB o_mul (pp_v 3 (pv 3)) (pp_v 3 (pv 3))) (pp_2 op_mulB o_mul (pp_c pe_int) (look_v 0 (pp_ix rfl (pp_v 0 (pv 0)) (pp_c pe_int) (fun _ _ => rfl))))) (pp_c pe_int)) pd_n)) (pp_c pe_int)))
    (ss_c (s_set (i := 3) sc_l_take.nd rfl (by first | exact Or.inl rfl | exact Or.inr rfl) (pp_2 op_mod o_mod (pp_T ob_int OW.c_int1 (by rfl) z_int (by decide +kernel) (pd_c (pp_2 op_add o_add (pp_2 op_add o_add (pp_2 op_mulB o_mul (pp_v 3 (pv 3)) (pp_v 3 (pv 3))) (pp_2 op_mulB o_mul (pp_c pe_int) (look_v 0 (pp_ix rfl (pp_v 0 (pv 0)) (pp_c pe_int) (fun _ _ => rfl))))) (pp_c pe_int)) pd_n)) (pp_c pe_int)))
    (ss_1 (s_ret (pp_2 op_mod o_mod (pp_T ob_int OW.c_int1 (by rfl) z_int (by decide +kernel) (pd_c (pp_2 op_divB o_div (pp_v 3 (pv 3)) (pp_c pe_int)) pd_n)) (pp_v 1 (pv 1))))))))))

theorem ok_l_signs {f : Addr} {fd : FuncData} (F : L2.Fun K "_law_signs" "_law_signs" s_l_signs f fd)
    (z_range : mg "range" = none)
    {f_l_take : Addr} {fd_l_take : FuncData} (O_l_take : FnOk P w K mg base CX0 1 f_l_take fd_l_take ["pool", "size"] (spP K ad 2 G_l_take)) (m_l_take : mg "_law_take" = some (.ref f_l_take)) (k_l_take : PySem.W.keepIn K (.ref f_l_take) = true) (b_l_take : Binds K fd_l_take ["pool", "size"] []) :
    FnOk P w K mg base CX0 2 f fd ["pool", "hours"] (spP K ad 2 G_l_signs) :=
  ok0 (N := N_l_signs) (s := B_l_signs) F sc_l_signs rfl rfl fun cdv A outer s H E hr =>
    (ss_c (s_set (i := 2) sc_l_signs.nd rfl (by first | exact Or.inl rfl | exact Or.inr rfl) (pp_c pe_str))
    (ss_c (s_set (i := 3) sc_l_signs.nd rfl (by first | exact Or.inl rfl | exact Or.inr rfl) (pp_call O_l_take (hr.mono (by decide)) (by rfl) m_l_take k_l_take b_l_take .nil pass0 (pq_k 0 (pv 0) (pq_c (pp_c pe_int) pq_n)) .nil))
    (ss_c (s_set (i := 4) sc_l_signs.nd rfl (by first | exact Or.inl rfl | exact Or.inr rfl) (pp_c pe_bl))
    (ss_c (s_for PassesOwn.never rfl (pi_r1 (by rfl) z_range (pp_2 op_sub o_sub (pp_v 1 (pv 1)) (pp_c pe_int))) (g_n (i := 5) sc_l_signs.nd rfl (by first | exact Or.inl rfl | exact Or.inr rfl))
    (ss_c (s_if (pp_tcmp (op_eqB hr.units) o_eq (pp_v 3 (pv 3)) (pp_c pe_int) (nomark _))
    (ss_1 (s_set (i := 4) sc_l_signs.nd rfl (by first | exact Or.inl rfl | exact Or.inr rfl) (pp_cmp (op_eqB hr.units) o_eq (pp_call O_l_take (hr.mono (by decide)) (by rfl) m_l_take k_l_take b_l_take .nil pass0 (pq_k 0 (pv 0) (pq_c (pp_c pe_int) pq_n)) .nil) (pp_c pe_int) (nomark _))))
    (ss_1 (s_if (pp_tcmp (op_eqB hr.units) o_eq (pp_v 3 (pv 3)) (pp_c pe_int) (nomark _))
    (ss_1 (s_set (i := 4) sc_l_signs.nd rfl (by first | exact Or.inl rfl | exact Or.inr rfl) (pp_cmp (op_eqB hr.units) o_eq (pp_call O_l_take (hr.mono (by decide)) (by rfl) m_l_take k_l_take b_l_take .nil pass0 (pq_k 0 (pv 0) (pq_c (pp_c pe_int) pq_n)) .nil) (pp_c pe_int) (nomark _))))
    (ss_1 (s_if (pp_tcmp (op_eqB hr.units) o_eq (pp_call O_l_take (hr.mono (by decide)) (by rfl) m_l_take k_l_take b_l_take .nil pass0 (pq_k 0 (pv 0) (pq_c (pp_c pe_int) pq_n)) .nil) (pp_c pe_int) (nomark _))
    (ss_1 (s_set (i := 4) sc_l_signs.nd rfl (by first | exact Or.inl rfl | exact Or.inr rfl) (pp_vno (pp_v 4 (pv 4)))))
    ss_n)))))
    (ss_1 (s_if (pp_tval (pp_v 4 (pv 4)))
    (ss_1 (s_set (i := 2) sc_l_signs.nd rfl (by first | exact Or.inl rfl | exact Or.inr rfl) (pp_2 op_addSS o_addS (pp_v 2 (pv 2)) (pp_c pe_str))))
    (ss_1 (s_set (i := 2) sc_l_signs.nd rfl (by first | exact Or.inl rfl | exact Or.inr rfl) (pp_2 op_addSS o_addS (pp_v 2 (pv 2)) (pp_c pe_str))))))))
    (ss_1 (s_ret (pp_v 2 (pv 2))))))))

theorem ok_l_size {f : Addr} {fd : FuncData} (F : L2.Fun K "_law_size" "_law_size" s_l_size f fd)
    {f_l_take : Addr} {fd_l_take : FuncData} (O_l_take : FnOk P w K mg base CX0 1 f_l_take fd_l_take ["pool", "size"] (spP K ad 2 G_l_take)) (m_l_take : mg "_law_take" = some (.ref f_l_take)) (k_l_take : PySem.W.keepIn K (.ref f_l_take) = true) (b_l_take : Binds K fd_l_take ["pool", "size"] []) :
    FnOk P w K mg base CX0 2 f fd ["pool", "usual", "most"] (spP K ad 3 G_l_size) :=
  ok0 (N := N_l_size) (s := B_l_size) F sc_l_size rfl rfl fun cdv A outer s H E hr =>
    (ss_c (s_if (pp_tcmp (op_eqB hr.units) o_eq (pp_call O_l_take (hr.mono (by decide)) (by rfl) m_l_take k_l_take b_l_take .nil pass0 (pq_k 0 (pv 0) (pq_c (pp_c pe_int) pq_n)) .nil) (pp_c pe_int) (nomark _))
    (ss_1 (s_ret (pp_2 op_add o_add (pp_c pe_int) (pp_call O_l_take (hr.mono (by decide)) (by rfl) m_l_take k_l_take b_l_take .nil pass0 (pq_k 0 (pv 0) (pq_c (pp_v 2 (pv 2)) pq_n)) .nil))))
    ss_n)
    (ss_1 (s_ret (pp_2 op_add o_add (pp_c pe_int) (pp_call O_l_take (hr.mono (by decide)) (by rfl) m_l_take k_l_take b_l_take .nil pass0 (pq_k 0 (pv 0) (pq_c (pp_v 1 (pv 1)) pq_n)) .nil)))))

theorem ok_l_turns {f : Addr} {fd : FuncData} (F : L2.Fun K "_law_turns" "_law_turns" s_l_turns f fd)
    (T_Weather : S_Weather K mg (ad .Weather))
    (z_len : mg "len" = none)
    (z_range : mg "range" = none)
    {f_l_equals : Addr} {fd_l_equals : FuncData} (O_l_equals : FnOk P w K mg base CX0 2 f_l_equals fd_l_equals ["one", "other", "due"] (spP K ad 3 G_l_equals)) (m_l_equals : mg "_law_equals" = some (.ref f_l_equals)) (k_l_equals : PySem.W.keepIn K (.ref f_l_equals) = true) (b_l_equals : Binds K fd_l_equals ["one", "other", "due"] [])
    {f_l_lengths : Addr} {fd_l_lengths : FuncData} (O_l_lengths : FnOk P w K mg base CX0 1 f_l_lengths fd_l_lengths ["signs"] (spP K ad 1 G_l_lengths)) (m_l_lengths : mg "_law_lengths" = some (.ref f_l_lengths)) (k_l_lengths : PySem.W.keepIn K (.ref f_l_lengths) = true) (b_l_lengths : Binds K fd_l_lengths ["signs"] [])
    {f_l_no_weather : Addr} {fd_l_no_weather : FuncData} (O_l_no_weather : FnOk P w K mg base CX0 4 f_l_no_weather fd_l_no_weather ["x", "y", "z", "way"] (spP K ad 4 G_l_no_weather)) (m_l_no_weather : mg "_law_no_weather" = some (.ref f_l_no_weather)) (k_l_no_weather : PySem.W.keepIn K (.ref f_l_no_weather) = true) (b_l_no_weather : Binds K fd_l_no_weather ["x", "y", "z", "way"] [])
    {f_l_parts : Addr} {fd_l_parts : FuncData} (O_l_parts : FnOk P w K mg base CX0 6 f_l_parts fd_l_parts ["weather", "signs"] (spP K ad 2 G_l_parts)) (m_l_parts : mg "_law_parts" = some (.ref f_l_parts)) (k_l_parts : PySem.W.keepIn K (.ref f_l_parts) = true) (b_l_parts : Binds K fd_l_parts ["weather", "signs"] [])
    {f_l_tells : Addr} {fd_l_tells : FuncData} (O_l_tells : FnOk P w K mg base CX0 5 f_l_tells fd_l_tells ["weather", "signs"] (spP K ad 2 G_l_tells)) (m_l_tells : mg "_law_tells" = some (.ref f_l_tells)) (k_l_tells : PySem.W.keepIn K (.ref f_l_tells) = true) (b_l_tells : Binds K fd_l_tells ["weather", "signs"] [])
    {f_Weather_back : Addr} {fd_Weather_back : FuncData} (O_Weather_back : FnOk P w K mg base (L2.CX P w) 3 f_Weather_back fd_Weather_back ["self"] (spP K ad 1 G_Weather_back)) (b_Weather_back : Binds K fd_Weather_back ["self"] []) (M_Weather_back : Meth K (ad .Weather) "back" f_Weather_back)
    {f_Weather_init : Addr} {fd_Weather_init : FuncData} (O_Weather_init : FnOk P w K mg base (L2.CX P w) 1 f_Weather_init fd_Weather_init ["self", "lengths"] (spP K ad 2 G_Weather_init)) (b_Weather_init : Binds K fd_Weather_init ["self", "lengths"] []) (I_Weather : Mk K (ad .Weather) f_Weather_init)
    {f_Weather_signs : Addr} {fd_Weather_signs : FuncData} (O_Weather_signs : FnOk P w K mg base CX0 1 f_Weather_signs fd_Weather_signs ["self"] (spP K ad 1 G_Weather_signs)) (b_Weather_signs : Binds K fd_Weather_signs ["self"] []) (M_Weather_signs : Meth K (ad .Weather) "signs" f_Weather_signs) :
    FnOk P w K mg base CX0 7 f fd ["weather", "signs"] (spP K ad 2 G_l_turns) :=
  ok0 (N := N_l_turns) (s := B_l_turns) F sc_l_turns rfl rfl fun cdv A outer s H E hr =>
    (ss_c (s_if (pp_tcmp (op_eqB hr.units) o_eq (pp_ix rfl (pp_v 1 (pv 1)) (pp_1 un_neg o_neg (pp_c pe_int)) (fun _ _ => rfl)) (pp_c pe_str) (nomark _))
    (ss_1 (s_ret (pp_call O_l_no_weather (hr.mono (by decide)) (by rfl) m_l_no_weather k_l_no_weather b_l_no_weather .nil pass0 (pq_c (pp_v 0 (pv 0)) (pq_c (pp_v 0 (pv 0)) (pq_c (pp_v 0 (pv 0)) (pq_c (pp_c pe_int) pq_n)))) .nil)))
    ss_n)
    (ss_c (s_set (i := 2) sc_l_turns.nd rfl (by first | exact Or.inl rfl | exact Or.inr rfl) (pp_meth0 .Weather (pp_v 0 (pv 0)) T_Weather.cl M_Weather_back O_Weather_back (hr.mono (by decide)) b_Weather_back passL))
    (ss_c (s_if (pp_tno (pp_tval (pp_call O_l_parts (hr.mono (by decide)) (by rfl) m_l_parts k_l_parts b_l_parts .nil pass0 (pq_c (pp_v 2 (pv 2)) (pq_c (pp_join rfl (pp_c pe_str) (pp_lc (own := [("k", 3)]) (by rfl) sc_l_turns.nd (pi_r1 (by rfl) z_range (pp_B ob_len (c_lenA rfl) (by rfl) z_len (by decide +kernel) (pd_c (pp_v 1 (pv 1)) pd_n))) (blkOk_by (N := N_l_turns) (sc := defScope s_l_turns) (by decide +kernel)) (fun _ _ _ _ _ => (g_n (i := 3) sc_l_turns.nd rfl (by first | exact Or.inl rfl | exact Or.inr rfl))) (fun _ _ _ _ _ => pts_n) (fun _ _ _ _ _ => (pp_ix rfl (pp_v 1 (pv 1)) (pp_2 op_sub o_sub (pp_2 op_sub o_sub (pp_B ob_len (c_lenA rfl) (by rfl) z_len (by decide +kernel) (pd_c (pp_v 1 (pv 1)) pd_n)) (pp_c pe_int)) (pp_v 3 (pv 3))) (fun _ _ => rfl))))) pq_n)) .nil)))
    (ss_1 (s_ret (pp_c pe_bl)))
    ss_n)
    (ss_c (s_if (pp_tno (pp_tval (pp_call O_l_equals (hr.mono (by decide)) (by rfl) m_l_equals k_l_equals b_l_equals .nil pass0 (pq_c (pp_v 2 (pv 2)) (pq_c (pp_make .Weather I_Weather O_Weather_init (hr.mono (by decide)) (by rfl) T_Weather.mg b_Weather_init .nil passL (pq_c (pp_call O_l_lengths (hr.mono (by decide)) (by rfl) m_l_lengths k_l_lengths b_l_lengths .nil pass0 (pq_c (pp_meth0 .Weather (pp_v 2 (pv 2)) T_Weather.cl M_Weather_signs O_Weather_signs (hr.mono (by decide)) b_Weather_signs pass0) pq_n) .nil) pq_n) .nil) (pq_c (pp_c pe_bl) pq_n))) .nil)))
    (ss_1 (s_ret (pp_c pe_bl)))
    ss_n)
    (ss_c (s_if (PW.pt (pp_woo (pp_tno (pp_tval (pp_call O_l_equals (hr.mono (by decide)) (by rfl) m_l_equals k_l_equals b_l_equals .nil pass0 (pq_c (pp_v 2 (pv 2)) (pq_c (pp_v 0 (pv 0)) (pq_c (pp_cmp (op_eqB hr.units) o_eq (pp_meth0 .Weather (pp_v 2 (pv 2)) T_Weather.cl M_Weather_signs O_Weather_signs (hr.mono (by decide)) b_Weather_signs pass0) (pp_v 1 (pv 1)) (nomark _)) pq_n))) .nil))) (pw_or1 (pp_tno (pp_tval (pp_call O_l_equals (hr.mono (by decide)) (by rfl) m_l_equals k_l_equals b_l_equals .nil pass0 (pq_c (pp_v 0 (pv 0)) (pq_c (pp_v 2 (pv 2)) (pq_c (pp_cmp (op_eqB hr.units) o_eq (pp_meth0 .Weather (pp_v 2 (pv 2)) T_Weather.cl M_Weather_signs O_Weather_signs (hr.mono (by decide)) b_Weather_signs pass0) (pp_v 1 (pv 1)) (nomark _)) pq_n))) .nil))))))
    (ss_1 (s_ret (pp_c pe_bl)))
    ss_n)
    (ss_1 (s_ret (pp_van (pp_call O_l_tells (hr.mono (by decide)) (by rfl) m_l_tells k_l_tells b_l_tells .nil pass0 (pq_c (pp_meth0 .Weather (pp_v 2 (pv 2)) T_Weather.cl M_Weather_back O_Weather_back (hr.mono (by decide)) b_Weather_back passL) (pq_c (pp_v 1 (pv 1)) pq_n)) .nil) (pe_one (pp_call O_l_equals (hr.mono (by decide)) (by rfl) m_l_equals k_l_equals b_l_equals .nil pass0 (pq_c (pp_meth0 .Weather (pp_v 2 (pv 2)) T_Weather.cl M_Weather_back O_Weather_back (hr.mono (by decide)) b_Weather_back passL) (pq_c (pp_v 0 (pv 0)) (pq_c (pp_c pe_bl) pq_n))) .nil))))))))))

theorem ok_l_law {f : Addr} {fd : FuncData} (F : L2.Fun K "law" "law" s_l_law f fd)
    (T_Weather : S_Weather K mg (ad .Weather))
    (z_len : mg "len" = none)
    (z_min : mg "min" = none)
    {f_l_adds : Addr} {fd_l_adds : FuncData} (O_l_adds : FnOk P w K mg base CX0 6 f_l_adds fd_l_adds ["x", "y", "before", "behind"] (spP K ad 4 G_l_adds)) (m_l_adds : mg "_law_adds" = some (.ref f_l_adds)) (k_l_adds : PySem.W.keepIn K (.ref f_l_adds) = true) (b_l_adds : Binds K fd_l_adds ["x", "y", "before", "behind"] [])
    {f_l_cell : Addr} {fd_l_cell : FuncData} (O_l_cell : FnOk P w K mg base CX0 1 f_l_cell fd_l_cell ["script", "k"] (spP K ad 2 G_l_cell)) (m_l_cell : mg "_law_cell" = some (.ref f_l_cell)) (k_l_cell : PySem.W.keepIn K (.ref f_l_cell) = true) (b_l_cell : Binds K fd_l_cell ["script", "k"] [])
    {f_l_cut : Addr} {fd_l_cut : FuncData} (O_l_cut : FnOk P w K mg base CX0 6 f_l_cut fd_l_cut ["weather", "signs", "n"] (spP K ad 3 G_l_cut)) (m_l_cut : mg "_law_cut" = some (.ref f_l_cut)) (k_l_cut : PySem.W.keepIn K (.ref f_l_cut) = true) (b_l_cut : Binds K fd_l_cut ["weather", "signs", "n"] [])
    {f_l_equals : Addr} {fd_l_equals : FuncData} (O_l_equals : FnOk P w K mg base CX0 2 f_l_equals fd_l_equals ["one", "other", "due"] (spP K ad 3 G_l_equals)) (m_l_equals : mg "_law_equals" = some (.ref f_l_equals)) (k_l_equals : PySem.W.keepIn K (.ref f_l_equals) = true) (b_l_equals : Binds K fd_l_equals ["one", "other", "due"] [])
    {f_l_joins : Addr} {fd_l_joins : FuncData} (O_l_joins : FnOk P w K mg base CX0 7 f_l_joins fd_l_joins ["x", "y", "before", "behind", "at"] (spP K ad 5 G_l_joins)) (m_l_joins : mg "_law_joins" = some (.ref f_l_joins)) (k_l_joins : PySem.W.keepIn K (.ref f_l_joins) = true) (b_l_joins : Binds K fd_l_joins ["x", "y", "before", "behind", "at"] [])
    {f_l_lengths : Addr} {fd_l_lengths : FuncData} (O_l_lengths : FnOk P w K mg base CX0 1 f_l_lengths fd_l_lengths ["signs"] (spP K ad 1 G_l_lengths)) (m_l_lengths : mg "_law_lengths" = some (.ref f_l_lengths)) (k_l_lengths : PySem.W.keepIn K (.ref f_l_lengths) = true) (b_l_lengths : Binds K fd_l_lengths ["signs"] [])
    {f_l_no_weather : Addr} {fd_l_no_weather : FuncData} (O_l_no_weather : FnOk P w K mg base CX0 4 f_l_no_weather fd_l_no_weather ["x", "y", "z", "way"] (spP K ad 4 G_l_no_weather)) (m_l_no_weather : mg "_law_no_weather" = some (.ref f_l_no_weather)) (k_l_no_weather : PySem.W.keepIn K (.ref f_l_no_weather) = true) (b_l_no_weather : Binds K fd_l_no_weather ["x", "y", "z", "way"] [])
    {f_l_parts : Addr} {fd_l_parts : FuncData} (O_l_parts : FnOk P w K mg base CX0 6 f_l_parts fd_l_parts ["weather", "signs"] (spP K ad 2 G_l_parts)) (m_l_parts : mg "_law_parts" = some (.ref f_l_parts)) (k_l_parts : PySem.W.keepIn K (.ref f_l_parts) = true) (b_l_parts : Binds K fd_l_parts ["weather", "signs"] [])
    {f_l_pool : Addr} {fd_l_pool : FuncData} (O_l_pool : FnOk P w K mg base CX0 1 f_l_pool fd_l_pool ["cell"] (spP K ad 1 G_l_pool)) (m_l_pool : mg "_law_pool" = some (.ref f_l_pool)) (k_l_pool : PySem.W.keepIn K (.ref f_l_pool) = true) (b_l_pool : Binds K fd_l_pool ["cell"] [])
    {f_l_signs : Addr} {fd_l_signs : FuncData} (O_l_signs : FnOk P w K mg base CX0 2 f_l_signs fd_l_signs ["pool", "hours"] (spP K ad 2 G_l_signs)) (m_l_signs : mg "_law_signs" = some (.ref f_l_signs)) (k_l_signs : PySem.W.keepIn K (.ref f_l_signs) = true) (b_l_signs : Binds K fd_l_signs ["pool", "hours"] [])
    {f_l_size : Addr} {fd_l_size : FuncData} (O_l_size : FnOk P w K mg base CX0 2 f_l_size fd_l_size ["pool", "usual", "most"] (spP K ad 3 G_l_size)) (m_l_size : mg "_law_size" = some (.ref f_l_size)) (k_l_size : PySem.W.keepIn K (.ref f_l_size) = true) (b_l_size : Binds K fd_l_size ["pool", "usual", "most"] [])
    {f_l_take : Addr} {fd_l_take : FuncData} (O_l_take : FnOk P w K mg base CX0 1 f_l_take fd_l_take ["pool", "size"] (spP K ad 2 G_l_take)) (m_l_take : mg "_law_take" = some (.ref f_l_take)) (k_l_take : PySem.W.keepIn K (.ref f_l_take) = true) (b_l_take : Binds K fd_l_take ["pool", "size"] [])
    {f_l_tells : Addr} {fd_l_tells : FuncData} (O_l_tells : FnOk P w K mg base CX0 5 f_l_tells fd_l_tells ["weather", "signs"] (spP K ad 2 G_l_tells)) (m_l_tells : mg "_law_tells" = some (.ref f_l_tells)) (k_l_tells : PySem.W.keepIn K (.ref f_l_tells) = true) (b_l_tells : Binds K fd_l_tells ["weather", "signs"] [])
    {f_l_turns : Addr} {fd_l_turns : FuncData} (O_l_turns : FnOk P w K mg base CX0 7 f_l_turns fd_l_turns ["weather", "signs"] (spP K ad 2 G_l_turns)) (m_l_turns : mg "_law_turns" = some (.ref f_l_turns)) (k_l_turns : PySem.W.keepIn K (.ref f_l_turns) = true) (b_l_turns : Binds K fd_l_turns ["weather", "signs"] [])
    {f_Weather_add : Addr} {fd_Weather_add : FuncData} (O_Weather_add : FnOk P w K mg base (L2.CX P w) 3 f_Weather_add fd_Weather_add ["self", "other"] (spP K ad 2 G_Weather_add)) (b_Weather_add : Binds K fd_Weather_add ["self", "other"] []) (M_Weather_add : Meth K (ad .Weather) "__add__" f_Weather_add)
    {f_Weather_init : Addr} {fd_Weather_init : FuncData} (O_Weather_init : FnOk P w K mg base (L2.CX P w) 1 f_Weather_init fd_Weather_init ["self", "lengths"] (spP K ad 2 G_Weather_init)) (b_Weather_init : Binds K fd_Weather_init ["self", "lengths"] []) (I_Weather : Mk K (ad .Weather) f_Weather_init)
    {f_Weather_of_signs : Addr} {fd_Weather_of_signs : FuncData} (O_Weather_of_signs : FnOk P w K mg base (L2.CX P w) 3 f_Weather_of_signs fd_Weather_of_signs ["signs"] (spP K ad 1 G_Weather_of_signs)) (b_Weather_of_signs : Binds K fd_Weather_of_signs ["signs"] []) {p_Weather_of_signs : Addr} (SM_Weather_of_signs : SMet K (ad .Weather) (.type "type") "of_signs" p_Weather_of_signs f_Weather_of_signs) (k_Weather_of_signs : PySem.W.keepIn K (.ref f_Weather_of_signs) = true) :
    FnOk P w K mg base CX0 8 f fd ["script"] (spP K ad 1 G_l_law) :=
  ok0 (N := N_l_law) (s := B_l_law) F sc_l_law rfl rfl fun cdv A outer s H E hr =>
    (ss_c (s_setC (i := 1) sc_l_law.nd rfl (by first | exact Or.inl rfl | exact Or.inr rfl) (pp_call O_l_pool (hr.mono (by decide)) (by rfl) m_l_pool k_l_pool b_l_pool .nil pass0 (pq_c (pp_call O_l_cell (hr.mono (by decide)) (by rfl) m_l_cell k_l_cell b_l_cell .nil pass0 (pq_c (pp_v 0 (pv 0)) (pq_c (pp_c pe_int) pq_n)) .nil) pq_n) .nil))
    (ss_c (s_set (i := 2) sc_l_law.nd rfl (by first | exact Or.inl rfl | exact Or.inr rfl) (pp_call O_l_signs (hr.mono (by decide)) (by rfl) m_l_signs k_l_signs b_l_signs .nil pass0 (pq_k 1 (pv 1) (pq_c (pp_call O_l_size (hr.mono (by decide)) (by rfl) m_l_size k_l_size b_l_size .nil pass0 (pq_k 1 (pv 1) (pq_c (pp_c pe_int) (pq_c (pp_c pe_int) pq_n))) .nil) pq_n)) .nil))
    (ss_c (s_setC (i := 1) sc_l_law.nd rfl (by first | exact Or.inl rfl | exact Or.inr rfl) (pp_call O_l_pool (hr.mono (by decide)) (by rfl) m_l_pool k_l_pool b_l_pool .nil pass0 (pq_c (pp_call O_l_cell (hr.mono (by decide)) (by rfl) m_l_cell k_l_cell b_l_cell .nil pass0 (pq_c (pp_v 0 (pv 0)) (pq_c (pp_c pe_int) pq_n)) .nil) pq_n) .nil))
    (ss_c (s_if (pp_tcmp op_lt o_lt (pp_call O_l_take (hr.mono (by decide)) (by rfl) m_l_take k_l_take b_l_take .nil pass0 (pq_k 1 (pv 1) (pq_c (pp_c pe_int) pq_n)) .nil) (pp_c pe_int) (nomark _))
    (ss_1 (s_set (i := 3) sc_l_law.nd rfl (by first | exact Or.inl rfl | exact Or.inr rfl) (pp_call O_l_signs (hr.mono (by decide)) (by rfl) m_l_signs k_l_signs b_l_signs .nil pass0 (pq_k 1 (pv 1) (pq_c (pp_B ob_min2 (OW.c_min2 rfl) (by rfl) z_min (by decide +kernel) (pd_c (pp_c pe_int) (pd_c (pp_2 op_sub o_sub (pp_2 op_add o_add (pp_c pe_int) (pp_call O_l_take (hr.mono (by decide)) (by rfl) m_l_take k_l_take b_l_take .nil pass0 (pq_k 1 (pv 1) (pq_c (pp_c pe_int) pq_n)) .nil)) (pp_B ob_len (c_lenA rfl) (by rfl) z_len (by decide +kernel) (pd_c (pp_v 2 (pv 2)) pd_n))) pd_n))) pq_n)) .nil)))
    (ss_1 (s_set (i := 3) sc_l_law.nd rfl (by first | exact Or.inl rfl | exact Or.inr rfl) (pp_call O_l_signs (hr.mono (by decide)) (by rfl) m_l_signs k_l_signs b_l_signs .nil pass0 (pq_k 1 (pv 1) (pq_c (pp_call O_l_size (hr.mono (by decide)) (by rfl) m_l_size k_l_size b_l_size .nil pass0 (pq_k 1 (pv 1) (pq_c (pp_c pe_int) (pq_c (pp_c pe_int) pq_n))) .nil) pq_n)) .nil))))
    (ss_c (s_setC (i := 1) sc_l_law.nd rfl (by first | exact Or.inl rfl | exact Or.inr rfl) (pp_call O_l_pool (hr.mono (by decide)) (by rfl) m_l_pool k_l_pool b_l_pool .nil pass0 (pq_c (pp_call O_l_cell (hr.mono (by decide)) (by rfl) m_l_cell k_l_cell b_l_cell .nil pass0 (pq_c (pp_v 0 (pv 0)) (pq_c (pp_c pe_int) pq_n)) .nil) pq_n) .nil))
    (ss_c (s_set (i := 4) sc_l_law.nd rfl (by first | exact Or.inl rfl | exact Or.inr rfl) (pp_call O_l_signs (hr.mono (by decide)) (by rfl) m_l_signs k_l_signs b_l_signs .nil pass0 (pq_k 1 (pv 1) (pq_c (pp_call O_l_size (hr.mono (by decide)) (by rfl) m_l_size k_l_size b_l_size .nil pass0 (pq_k 1 (pv 1) (pq_c (pp_c pe_int) (pq_c (pp_c pe_int) pq_n))) .nil) pq_n)) .nil))
    (ss_c (s_setC (i := 1) sc_l_law.nd rfl (by first | exact Or.inl rfl | exact Or.inr rfl) (pp_call O_l_pool (hr.mono (by decide)) (by rfl) m_l_pool k_l_pool b_l_pool .nil pass0 (pq_c (pp_call O_l_cell (hr.mono (by decide)) (by rfl) m_l_cell k_l_cell b_l_cell .nil pass0 (pq_c (pp_v 0 (pv 0)) (pq_c (pp_c pe_int) pq_n)) .nil) pq_n) .nil))
    (ss_c (s_set (i := 5) sc_l_law.nd rfl (by first | exact Or.inl rfl | exact Or.inr rfl) (pp_2 op_sub o_sub (pp_call O_l_take (hr.mono (by decide)) (by rfl) m_l_take k_l_take b_l_take .nil pass0 (pq_k 1 (pv 1) (pq_c (pp_2 op_add o_add (pp_B ob_len (c_lenA rfl) (by rfl) z_len (by decide +kernel) (pd_c (pp_v 2 (pv 2)) pd_n)) (pp_c pe_int)) pq_n)) .nil) (pp_c pe_int)))
    (ss_c (s_set (i := 6) sc_l_law.nd rfl (by first | exact Or.inl rfl | exact Or.inr rfl) (pp_2 op_add o_add (pp_c pe_int) (pp_call O_l_take (hr.mono (by decide)) (by rfl) m_l_take k_l_take b_l_take .nil pass0 (pq_k 1 (pv 1) (pq_c (pp_2 op_add o_add (pp_B ob_len (c_lenA rfl) (by rfl) z_len (by decide +kernel) (pd_c (pp_v 2 (pv 2)) pd_n)) (pp_B ob_len (c_lenA rfl) (by rfl) z_len (by decide +kernel) (pd_c (pp_v 3 (pv 3)) pd_n))) pq_n)) .nil)))
    (ss_c (s_set (i := 7) sc_l_law.nd rfl (by first | exact Or.inl rfl | exact Or.inr rfl) (pp_make .Weather I_Weather O_Weather_init (hr.mono (by decide)) (by rfl) T_Weather.mg b_Weather_init .nil passL (pq_c (pp_call O_l_lengths (hr.mono (by decide)) (by rfl) m_l_lengths k_l_lengths b_l_lengths .nil pass0 (pq_c (pp_v 2 (pv 2)) pq_n) .nil) pq_n) .nil))
    (ss_c (s_set (i := 8) sc_l_law.nd rfl (by first | exact Or.inl rfl | exact Or.inr rfl) (pp_sm .Weather (C8.pe_gc (v := .ref (ad .Weather)) (by rfl) ⟨_, T_Weather.mg, rfl⟩) T_Weather.cr SM_Weather_of_signs k_Weather_of_signs O_Weather_of_signs (hr.mono (by decide)) b_Weather_of_signs passL (pq_c (pp_v 3 (pv 3)) pq_n)))
    (ss_c (s_set (i := 9) sc_l_law.nd rfl (by first | exact Or.inl rfl | exact Or.inr rfl) (pp_make .Weather I_Weather O_Weather_init (hr.mono (by decide)) (by rfl) T_Weather.mg b_Weather_init .nil passL (pq_c (pp_call O_l_lengths (hr.mono (by decide)) (by rfl) m_l_lengths k_l_lengths b_l_lengths .nil pass0 (pq_c (pp_v 4 (pv 4)) pq_n) .nil) pq_n) .nil))
    (ss_c (s_if (PW.pt (pp_woo (pp_tno (pp_tval (pp_call O_l_parts (hr.mono (by decide)) (by rfl) m_l_parts k_l_parts b_l_parts .nil pass0 (pq_c (pp_v 7 (pv 7)) (pq_c (pp_v 2 (pv 2)) pq_n)) .nil))) (pp_woo (pp_tno (pp_tval (pp_call O_l_parts (hr.mono (by decide)) (by rfl) m_l_parts k_l_parts b_l_parts .nil pass0 (pq_c (pp_v 8 (pv 8)) (pq_c (pp_v 3 (pv 3)) pq_n)) .nil))) (pw_or1 (pp_tno (pp_tval (pp_call O_l_parts (hr.mono (by decide)) (by rfl) m_l_parts k_l_parts b_l_parts .nil pass0 (pq_c (pp_v 9 (pv 9)) (pq_c (pp_v 4 (pv 4)) pq_n)) .nil)))))))
    (ss_1 (s_ret (pp_c pe_bl)))
    ss_n)
    (ss_c (s_if (PW.pt (pp_woo (pp_tno (pp_tval (pp_call O_l_turns (hr.mono (by decide)) (by rfl) m_l_turns k_l_turns b_l_turns .nil pass0 (pq_c (pp_v 7 (pv 7)) (pq_c (pp_v 2 (pv 2)) pq_n)) .nil))) (pp_woo (pp_tno (pp_tval (pp_call O_l_turns (hr.mono (by decide)) (by rfl) m_l_turns k_l_turns b_l_turns .nil pass0 (pq_c (pp_v 8 (pv 8)) (pq_c (pp_v 3 (pv 3)) pq_n)) .nil))) (pw_or1 (pp_tno (pp_tval (pp_call O_l_turns (hr.mono (by decide)) (by rfl) m_l_turns k_l_turns b_l_turns .nil pass0 (pq_c (pp_v 9 (pv 9)) (pq_c (pp_v 4 (pv 4)) pq_n)) .nil)))))))
    (ss_1 (s_ret (pp_c pe_bl)))
    ss_n)
    (ss_c (s_if (PW.pt (pp_woo (pp_tno (pp_tval (pp_call O_l_cut (hr.mono (by decide)) (by rfl) m_l_cut k_l_cut b_l_cut .nil pass0 (pq_c (pp_v 7 (pv 7)) (pq_c (pp_v 2 (pv 2)) (pq_c (pp_c pe_int) pq_n))) .nil))) (pp_woo (pp_tno (pp_tval (pp_call O_l_cut (hr.mono (by decide)) (by rfl) m_l_cut k_l_cut b_l_cut .nil pass0 (pq_c (pp_v 7 (pv 7)) (pq_c (pp_v 2 (pv 2)) (pq_c (pp_2 op_add o_add (pp_B ob_len (c_lenA rfl) (by rfl) z_len (by decide +kernel) (pd_c (pp_v 2 (pv 2)) pd_n)) (pp_c pe_int)) pq_n))) .nil))) (pw_or1 (pp_tno (pp_tval (pp_call O_l_cut (hr.mono (by decide)) (by rfl) m_l_cut k_l_cut b_l_cut .nil pass0 (pq_c (pp_v 7 (pv 7)) (pq_c (pp_v 2 (pv 2)) (pq_c (pp_v 5 (pv 5)) pq_n))) .nil)))))))
    (ss_1 (s_ret (pp_c pe_bl)))
    ss_n)
    (ss_c (s_if (PW.pt (pp_woo (pp_tno (pp_tval (pp_call O_l_cut (hr.mono (by decide)) (by rfl) m_l_cut k_l_cut b_l_cut .nil pass0 (pq_c (pp_v 7 (pv 7)) (pq_c (pp_v 2 (pv 2)) (pq_c (pp_B ob_len (c_lenA rfl) (by rfl) z_len (by decide +kernel) (pd_c (pp_v 2 (pv 2)) pd_n)) pq_n))) .nil))) (pp_woo (pp_tno (pp_tval (pp_call O_l_cut (hr.mono (by decide)) (by rfl) m_l_cut k_l_cut b_l_cut .nil pass0 (pq_c (pp_v 7 (pv 7)) (pq_c (pp_v 2 (pv 2)) (pq_c (pp_c pe_int) pq_n))) .nil))) (pw_or1 (pp_tno (pp_tval (pp_call O_l_cut (hr.mono (by decide)) (by rfl) m_l_cut k_l_cut b_l_cut .nil pass0 (pq_c (pp_v 7 (pv 7)) (pq_c (pp_v 2 (pv 2)) (pq_c (pp_2 op_sub o_sub (pp_1 un_neg o_neg (pp_c pe_int)) (pp_v 6 (pv 6))) pq_n))) .nil)))))))
    (ss_1 (s_ret (pp_c pe_bl)))
    ss_n)
    (ss_c (s_if (PW.pt (pp_woo (pp_tno (pp_tval (pp_call O_l_joins (hr.mono (by decide)) (by rfl) m_l_joins k_l_joins b_l_joins .nil pass0 (pq_c (pp_v 7 (pv 7)) (pq_c (pp_v 8 (pv 8)) (pq_c (pp_v 2 (pv 2)) (pq_c (pp_v 3 (pv 3)) (pq_c (pp_v 6 (pv 6)) pq_n))))) .nil))) (pw_or1 (pp_tno (pp_tval (pp_call O_l_adds (hr.mono (by decide)) (by rfl) m_l_adds k_l_adds b_l_adds .nil pass0 (pq_c (pp_v 8 (pv 8)) (pq_c (pp_v 7 (pv 7)) (pq_c (pp_v 3 (pv 3)) (pq_c (pp_v 2 (pv 2)) pq_n)))) .nil))))))
    (ss_1 (s_ret (pp_c pe_bl)))
    ss_n)
    (ss_c (s_if (PW.pt (pp_woo (pp_tno (pp_tval (pp_call O_l_adds (hr.mono (by decide)) (by rfl) m_l_adds k_l_adds b_l_adds .nil pass0 (pq_c (pp_v 9 (pv 9)) (pq_c (pp_v 7 (pv 7)) (pq_c (pp_v 4 (pv 4)) (pq_c (pp_v 2 (pv 2)) pq_n)))) .nil))) (pw_or1 (pp_tno (pp_tval (pp_call O_l_adds (hr.mono (by decide)) (by rfl) m_l_adds k_l_adds b_l_adds .nil pass0 (pq_c (pp_v 7 (pv 7)) (pq_c (pp_v 7 (pv 7)) (pq_c (pp_v 2 (pv 2)) (pq_c (pp_v 2 (pv 2)) pq_n)))) .nil))))))
    (ss_1 (s_ret (pp_c pe_bl)))
    ss_n)
    (ss_c (s_if (pp_tcmp op_gt o_gt (pp_2 op_add o_add (pp_2 op_add o_add (pp_B ob_len (c_lenA rfl) (by rfl) z_len (by decide +kernel) (pd_c (pp_v 2 (pv 2)) pd_n)) (pp_B ob_len (c_lenA rfl) (by rfl) z_len (by decide +kernel) (pd_c (pp_v 3 (pv 3)) pd_n))) (pp_B ob_len (c_lenA rfl) (by rfl) z_len (by decide +kernel) (pd_c (pp_v 4 (pv 4)) pd_n))) (pp_c pe_int) (nomark _))
    (ss_1 (s_if (PW.pt (pp_woo (pp_tno (pp_tval (pp_call O_l_no_weather (hr.mono (by decide)) (by rfl) m_l_no_weather k_l_no_weather b_l_no_weather .nil pass0 (pq_c (pp_v 7 (pv 7)) (pq_c (pp_v 8 (pv 8)) (pq_c (pp_v 9 (pv 9)) (pq_c (pp_c pe_int) pq_n)))) .nil))) (pw_or1 (pp_tno (pp_tval (pp_call O_l_no_weather (hr.mono (by decide)) (by rfl) m_l_no_weather k_l_no_weather b_l_no_weather .nil pass0 (pq_c (pp_v 7 (pv 7)) (pq_c (pp_v 8 (pv 8)) (pq_c (pp_v 9 (pv 9)) (pq_c (pp_c pe_int) pq_n)))) .nil))))))
    (ss_1 (s_ret (pp_c pe_bl)))
    ss_n))
    (ss_c (s_set (i := 10) sc_l_law.nd rfl (by first | exact Or.inl rfl | exact Or.inr rfl) (pp_own2 .Weather rfl M_Weather_add T_Weather.sf O_Weather_add (hr.mono (by decide)) b_Weather_add passL (pp_own2 .Weather rfl M_Weather_add T_Weather.sf O_Weather_add (hr.mono (by decide)) b_Weather_add passL (pp_v 7 (pv 7)) (pp_v 8 (pv 8))) (pp_v 9 (pv 9))))
    (ss_c (s_set (i := 11) sc_l_law.nd rfl (by first | exact Or.inl rfl | exact Or.inr rfl) (pp_own2 .Weather rfl M_Weather_add T_Weather.sf O_Weather_add (hr.mono (by decide)) b_Weather_add passL (pp_v 7 (pv 7)) (pp_own2 .Weather rfl M_Weather_add T_Weather.sf O_Weather_add (hr.mono (by decide)) b_Weather_add passL (pp_v 8 (pv 8)) (pp_v 9 (pv 9)))))
    (ss_c (s_if (PW.pt (pp_woo (pp_tno (pp_tval (pp_call O_l_tells (hr.mono (by decide)) (by rfl) m_l_tells k_l_tells b_l_tells .nil pass0 (pq_c (pp_v 10 (pv 10)) (pq_c (pp_2 op_addSS o_addS (pp_2 op_addSS o_addS (pp_v 2 (pv 2)) (pp_v 3 (pv 3))) (pp_v 4 (pv 4))) pq_n)) .nil))) (pw_or1 (pp_tno (pp_tval (pp_call O_l_tells (hr.mono (by decide)) (by rfl) m_l_tells k_l_tells b_l_tells .nil pass0 (pq_c (pp_v 11 (pv 11)) (pq_c (pp_2 op_addSS o_addS (pp_2 op_addSS o_addS (pp_v 2 (pv 2)) (pp_v 3 (pv 3))) (pp_v 4 (pv 4))) pq_n)) .nil))))))
    (ss_1 (s_ret (pp_c pe_bl)))
    ss_n)
    (ss_1 (s_if (pp_tno (pp_tval (pp_call O_l_equals (hr.mono (by decide)) (by rfl) m_l_equals k_l_equals b_l_equals .nil pass0 (pq_c (pp_v 10 (pv 10)) (pq_c (pp_v 11 (pv 11)) (pq_c (pp_c pe_bl) pq_n))) .nil)))
    (ss_1 (s_ret (pp_c pe_bl)))
    ss_n))))))
    (ss_1 (s_ret (pp_van (pp_call O_l_parts (hr.mono (by decide)) (by rfl) m_l_parts k_l_parts b_l_parts .nil pass0 (pq_c (pp_v 7 (pv 7)) (pq_c (pp_v 2 (pv 2)) pq_n)) .nil) (pp_van (pp_call O_l_tells (hr.mono (by decide)) (by rfl) m_l_tells k_l_tells b_l_tells .nil pass0 (pq_c (pp_v 8 (pv 8)) (pq_c (pp_v 3 (pv 3)) pq_n)) .nil) (pe_one (pp_call O_l_tells (hr.mono (by decide)) (by rfl) m_l_tells k_l_tells b_l_tells .nil pass0 (pq_c (pp_v 9 (pv 9)) (pq_c (pp_v 4 (pv 4)) pq_n)) .nil)))))))))))))))))))))))))
end
end DP
section
set_option maxHeartbeats 3900000
namespace DP
open PySem PySem.Spec PyProof.Rows L2 PL
def adOf (C_BadHour : Addr) (C_BadWeather : Addr) (C_DampError : Addr) (C_TooLarge : Addr) (C_Weather : Addr) : Cl → Addr
  | .BadHour => C_BadHour
  | .BadWeather => C_BadWeather
  | .DampError => C_DampError
  | .TooLarge => C_TooLarge
  | .Weather => C_Weather
  | _ => 0
theorem all_mk {l : PySem.W.OpenLaw} {w : World} {K : PySem.W.Frag} {h : Heap} {mg : Str → Option Value} {fa : Addr} (X : K.In h) (G : h.Ns mainGlobals mg) (hfa : mg "law" = some (.ref fa))
    {C_BadHour : Addr}
    {C_BadWeather : Addr}
    {C_DampError : Addr}
    {C_TooLarge : Addr}
    {C_Weather : Addr}
    {tkg_DAMP : Tok}
    {tkg_DRY : Tok}
    {tkg_MOST_HOURS : Tok}
    {f_Weather_init : Addr} {od_Weather_init an_Weather_init : Option Addr} {sl_Weather_init : Array (Option Value)} {oc_Weather_init kV_Weather_init dc_Weather_init pm_Weather_init cd_Weather_init ct_Weather_init : Value}
    {f_f_ends_damp : Addr} {od_f_ends_damp an_f_ends_damp : Option Addr} {sl_f_ends_damp : Array (Option Value)} {oc_f_ends_damp kV_f_ends_damp dc_f_ends_damp pm_f_ends_damp cd_f_ends_damp ct_f_ends_damp : Value}
    {f_Weather_add : Addr} {od_Weather_add an_Weather_add : Option Addr} {sl_Weather_add : Array (Option Value)} {oc_Weather_add kV_Weather_add dc_Weather_add pm_Weather_add cd_Weather_add ct_Weather_add : Value}
    {f_f_lengths_of : Addr} {od_f_lengths_of an_f_lengths_of : Option Addr} {sl_f_lengths_of : Array (Option Value)} {oc_f_lengths_of kV_f_lengths_of dc_f_lengths_of pm_f_lengths_of cd_f_lengths_of ct_f_lengths_of : Value}
    {f_Weather_of_signs : Addr} {od_Weather_of_signs an_Weather_of_signs : Option Addr} {sl_Weather_of_signs : Array (Option Value)} {oc_Weather_of_signs kV_Weather_of_signs dc_Weather_of_signs pm_Weather_of_signs cd_Weather_of_signs ct_Weather_of_signs : Value}
    {p_Weather_of_signs : Addr} {rest_Weather_of_signs : List Value}
    {f_Weather_back : Addr} {od_Weather_back an_Weather_back : Option Addr} {sl_Weather_back : Array (Option Value)} {oc_Weather_back kV_Weather_back dc_Weather_back pm_Weather_back cd_Weather_back ct_Weather_back : Value}
    {f_l_no_weather : Addr} {od_l_no_weather an_l_no_weather : Option Addr} {sl_l_no_weather : Array (Option Value)} {oc_l_no_weather kV_l_no_weather dc_l_no_weather pm_l_no_weather cd_l_no_weather ct_l_no_weather : Value}
    {f_Weather_hours : Addr} {od_Weather_hours an_Weather_hours : Option Addr} {sl_Weather_hours : Array (Option Value)} {oc_Weather_hours kV_Weather_hours dc_Weather_hours pm_Weather_hours cd_Weather_hours ct_Weather_hours : Value}
    {p_Weather_hours : Addr} {rest_Weather_hours : List Value}
    {f_Weather_check_told : Addr} {od_Weather_check_told an_Weather_check_told : Option Addr} {sl_Weather_check_told : Array (Option Value)} {oc_Weather_check_told kV_Weather_check_told dc_Weather_check_told pm_Weather_check_told cd_Weather_check_told ct_Weather_check_told : Value}
    {f_Weather_signs : Addr} {od_Weather_signs an_Weather_signs : Option Addr} {sl_Weather_signs : Array (Option Value)} {oc_Weather_signs kV_Weather_signs dc_Weather_signs pm_Weather_signs cd_Weather_signs ct_Weather_signs : Value}
    {f_Weather_is_dry : Addr} {od_Weather_is_dry an_Weather_is_dry : Option Addr} {sl_Weather_is_dry : Array (Option Value)} {oc_Weather_is_dry kV_Weather_is_dry dc_Weather_is_dry pm_Weather_is_dry cd_Weather_is_dry ct_Weather_is_dry : Value}
    {f_Weather_iter : Addr} {od_Weather_iter an_Weather_iter : Option Addr} {sl_Weather_iter : Array (Option Value)} {oc_Weather_iter kV_Weather_iter dc_Weather_iter pm_Weather_iter cd_Weather_iter ct_Weather_iter : Value}
    {f_l_int : Addr} {od_l_int an_l_int : Option Addr} {sl_l_int : Array (Option Value)} {oc_l_int kV_l_int dc_l_int pm_l_int cd_l_int ct_l_int : Value}
    {f_l_lengths : Addr} {od_l_lengths an_l_lengths : Option Addr} {sl_l_lengths : Array (Option Value)} {oc_l_lengths kV_l_lengths dc_l_lengths pm_l_lengths cd_l_lengths ct_l_lengths : Value}
    {f_l_rows : Addr} {od_l_rows an_l_rows : Option Addr} {sl_l_rows : Array (Option Value)} {oc_l_rows kV_l_rows dc_l_rows pm_l_rows cd_l_rows ct_l_rows : Value}
    {f_l_tells : Addr} {od_l_tells an_l_tells : Option Addr} {sl_l_tells : Array (Option Value)} {oc_l_tells kV_l_tells dc_l_tells pm_l_tells cd_l_tells ct_l_tells : Value}
    {f_l_adds : Addr} {od_l_adds an_l_adds : Option Addr} {sl_l_adds : Array (Option Value)} {oc_l_adds kV_l_adds dc_l_adds pm_l_adds cd_l_adds ct_l_adds : Value}
    {f_l_cell : Addr} {od_l_cell an_l_cell : Option Addr} {sl_l_cell : Array (Option Value)} {oc_l_cell kV_l_cell dc_l_cell pm_l_cell cd_l_cell ct_l_cell : Value}
    {f_Weather_first : Addr} {od_Weather_first an_Weather_first : Option Addr} {sl_Weather_first : Array (Option Value)} {oc_Weather_first kV_Weather_first dc_Weather_first pm_Weather_first cd_Weather_first ct_Weather_first : Value}
    {f_l_no_first : Addr} {od_l_no_first an_l_no_first : Option Addr} {sl_l_no_first : Array (Option Value)} {oc_l_no_first kV_l_no_first dc_l_no_first pm_l_no_first cd_l_no_first ct_l_no_first : Value}
    {f_l_cut : Addr} {od_l_cut an_l_cut : Option Addr} {sl_l_cut : Array (Option Value)} {oc_l_cut kV_l_cut dc_l_cut pm_l_cut cd_l_cut ct_l_cut : Value}
    {f_Weather_eq : Addr} {od_Weather_eq an_Weather_eq : Option Addr} {sl_Weather_eq : Array (Option Value)} {oc_Weather_eq kV_Weather_eq dc_Weather_eq pm_Weather_eq cd_Weather_eq ct_Weather_eq : Value}
    {f_l_equals : Addr} {od_l_equals an_l_equals : Option Addr} {sl_l_equals : Array (Option Value)} {oc_l_equals kV_l_equals dc_l_equals pm_l_equals cd_l_equals ct_l_equals : Value}
    {f_Weather_runs : Addr} {od_Weather_runs an_Weather_runs : Option Addr} {sl_Weather_runs : Array (Option Value)} {oc_Weather_runs kV_Weather_runs dc_Weather_runs pm_Weather_runs cd_Weather_runs ct_Weather_runs : Value}
    {f_Weather_spells : Addr} {od_Weather_spells an_Weather_spells : Option Addr} {sl_Weather_spells : Array (Option Value)} {oc_Weather_spells kV_Weather_spells dc_Weather_spells pm_Weather_spells cd_Weather_spells ct_Weather_spells : Value}
    {f_l_runs : Addr} {od_l_runs an_l_runs : Option Addr} {sl_l_runs : Array (Option Value)} {oc_l_runs kV_l_runs dc_l_runs pm_l_runs cd_l_runs ct_l_runs : Value}
    {f_l_spells : Addr} {od_l_spells an_l_spells : Option Addr} {sl_l_spells : Array (Option Value)} {oc_l_spells kV_l_spells dc_l_spells pm_l_spells cd_l_spells ct_l_spells : Value}
    {f_l_parts : Addr} {od_l_parts an_l_parts : Option Addr} {sl_l_parts : Array (Option Value)} {oc_l_parts kV_l_parts dc_l_parts pm_l_parts cd_l_parts ct_l_parts : Value}
    {f_l_joins : Addr} {od_l_joins an_l_joins : Option Addr} {sl_l_joins : Array (Option Value)} {oc_l_joins kV_l_joins dc_l_joins pm_l_joins cd_l_joins ct_l_joins : Value}
    {f_l_pool : Addr} {od_l_pool an_l_pool : Option Addr} {sl_l_pool : Array (Option Value)} {oc_l_pool kV_l_pool dc_l_pool pm_l_pool cd_l_pool ct_l_pool : Value}
    {f_l_take : Addr} {od_l_take an_l_take : Option Addr} {sl_l_take : Array (Option Value)} {oc_l_take kV_l_take dc_l_take pm_l_take cd_l_take ct_l_take : Value}
    {f_l_signs : Addr} {od_l_signs an_l_signs : Option Addr} {sl_l_signs : Array (Option Value)} {oc_l_signs kV_l_signs dc_l_signs pm_l_signs cd_l_signs ct_l_signs : Value}
    {f_l_size : Addr} {od_l_size an_l_size : Option Addr} {sl_l_size : Array (Option Value)} {oc_l_size kV_l_size dc_l_size pm_l_size cd_l_size ct_l_size : Value}
    {f_l_turns : Addr} {od_l_turns an_l_turns : Option Addr} {sl_l_turns : Array (Option Value)} {oc_l_turns kV_l_turns dc_l_turns pm_l_turns cd_l_turns ct_l_turns : Value}
    {f_l_law : Addr} {od_l_law an_l_law : Option Addr} {sl_l_law : Array (Option Value)} {oc_l_law kV_l_law dc_l_law pm_l_law cd_l_law ct_l_law : Value}
    (a_BadHour : PySem.W.nsIn K mainGlobals "BadHour" = some (some (.ref C_BadHour)))
    (c_BadHour_x : PySem.W.excIn K C_BadHour [.type "ValueError", .type "Exception", .type "BaseException", .type "object"] "ValueError.__new__" = true)
    (c_BadHour_kp : PySem.W.keepIn K (.ref C_BadHour) = true)
    (c_BadHour_b : PySem.W.subIn K (.ref C_BadHour) (.type "BaseException") = some true)
    (c_BadHour_t : PySem.W.typeIn K (.ref C_BadHour) = some (.type "type"))
    (c_BadHour_i : PySem.W.isClsIn K C_BadHour = true)
    (c_BadHour_s : PySem.W.subIn K (.ref C_BadHour) (.ref C_BadHour) = some true)
    (c_BadHour_hg : PySem.W.findIn K (.ref C_BadHour) "__getattribute__" = some (some (.builtin "BaseException.__getattribute__")))
    (c_BadHour_hk : PySem.W.findIn K (.ref C_BadHour) "__getattr__" = some none)
    (c_BadHour_hd : PySem.W.hasDictIn K C_BadHour = true)
    (c_BadHour_ha : PySem.W.findIn K (.ref C_BadHour) "__class__" = some (some (.builtin "object.__class__")))
    (c_BadHour_hn : PySem.W.specialIn K (.builtin "object.__class__") "__get__" = some (some (.builtin "getset_descriptor.__get__")))
    (c_BadHour_ht : PySem.W.takesIn K (.builtin "object.__class__") = some true)
    (c_BadHour_hm : PySem.W.mroIn K C_BadHour (.type "object") = some true)
    (a_BadWeather : PySem.W.nsIn K mainGlobals "BadWeather" = some (some (.ref C_BadWeather)))
    (c_BadWeather_x : PySem.W.excIn K C_BadWeather [.type "ValueError", .type "Exception", .type "BaseException", .type "object"] "ValueError.__new__" = true)
    (c_BadWeather_kp : PySem.W.keepIn K (.ref C_BadWeather) = true)
    (c_BadWeather_b : PySem.W.subIn K (.ref C_BadWeather) (.type "BaseException") = some true)
    (c_BadWeather_t : PySem.W.typeIn K (.ref C_BadWeather) = some (.type "type"))
    (c_BadWeather_i : PySem.W.isClsIn K C_BadWeather = true)
    (c_BadWeather_s : PySem.W.subIn K (.ref C_BadWeather) (.ref C_BadWeather) = some true)
    (c_BadWeather_hg : PySem.W.findIn K (.ref C_BadWeather) "__getattribute__" = some (some (.builtin "BaseException.__getattribute__")))
    (c_BadWeather_hk : PySem.W.findIn K (.ref C_BadWeather) "__getattr__" = some none)
    (c_BadWeather_hd : PySem.W.hasDictIn K C_BadWeather = true)
    (c_BadWeather_ha : PySem.W.findIn K (.ref C_BadWeather) "__class__" = some (some (.builtin "object.__class__")))
    (c_BadWeather_hn : PySem.W.specialIn K (.builtin "object.__class__") "__get__" = some (some (.builtin "getset_descriptor.__get__")))
    (c_BadWeather_ht : PySem.W.takesIn K (.builtin "object.__class__") = some true)
    (c_BadWeather_hm : PySem.W.mroIn K C_BadWeather (.type "object") = some true)
    (a_DampError : PySem.W.nsIn K mainGlobals "DampError" = some (some (.ref C_DampError)))
    (c_DampError_x : PySem.W.excIn K C_DampError [.type "ValueError", .type "Exception", .type "BaseException", .type "object"] "ValueError.__new__" = true)
    (c_DampError_kp : PySem.W.keepIn K (.ref C_DampError) = true)
    (c_DampError_b : PySem.W.subIn K (.ref C_DampError) (.type "BaseException") = some true)
    (c_DampError_t : PySem.W.typeIn K (.ref C_DampError) = some (.type "type"))
    (c_DampError_i : PySem.W.isClsIn K C_DampError = true)
    (c_DampError_s : PySem.W.subIn K (.ref C_DampError) (.ref C_DampError) = some true)
    (c_DampError_hg : PySem.W.findIn K (.ref C_DampError) "__getattribute__" = some (some (.builtin "BaseException.__getattribute__")))
    (c_DampError_hk : PySem.W.findIn K (.ref C_DampError) "__getattr__" = some none)
    (c_DampError_hd : PySem.W.hasDictIn K C_DampError = true)
    (c_DampError_ha : PySem.W.findIn K (.ref C_DampError) "__class__" = some (some (.builtin "object.__class__")))
    (c_DampError_hn : PySem.W.specialIn K (.builtin "object.__class__") "__get__" = some (some (.builtin "getset_descriptor.__get__")))
    (c_DampError_ht : PySem.W.takesIn K (.builtin "object.__class__") = some true)
    (c_DampError_hm : PySem.W.mroIn K C_DampError (.type "object") = some true)
    (a_TooLarge : PySem.W.nsIn K mainGlobals "TooLarge" = some (some (.ref C_TooLarge)))
    (c_TooLarge_x : PySem.W.excIn K C_TooLarge [.type "ValueError", .type "Exception", .type "BaseException", .type "object"] "ValueError.__new__" = true)
    (c_TooLarge_kp : PySem.W.keepIn K (.ref C_TooLarge) = true)
    (c_TooLarge_b : PySem.W.subIn K (.ref C_TooLarge) (.type "BaseException") = some true)
    (c_TooLarge_t : PySem.W.typeIn K (.ref C_TooLarge) = some (.type "type"))
    (c_TooLarge_i : PySem.W.isClsIn K C_TooLarge = true)
    (c_TooLarge_s : PySem.W.subIn K (.ref C_TooLarge) (.ref C_TooLarge) = some true)
    (c_TooLarge_hg : PySem.W.findIn K (.ref C_TooLarge) "__getattribute__" = some (some (.builtin "BaseException.__getattribute__")))
    (c_TooLarge_hk : PySem.W.findIn K (.ref C_TooLarge) "__getattr__" = some none)
    (c_TooLarge_hd : PySem.W.hasDictIn K C_TooLarge = true)
    (c_TooLarge_ha : PySem.W.findIn K (.ref C_TooLarge) "__class__" = some (some (.builtin "object.__class__")))
    (c_TooLarge_hn : PySem.W.specialIn K (.builtin "object.__class__") "__get__" = some (some (.builtin "getset_descriptor.__get__")))
    (c_TooLarge_ht : PySem.W.takesIn K (.builtin "object.__class__") = some true)
    (c_TooLarge_hm : PySem.W.mroIn K C_TooLarge (.type "object") = some true)
    (a_Weather : PySem.W.nsIn K mainGlobals "Weather" = some (some (.ref C_Weather)))
    (c_Weather_pg : PySem.W.plainGet K C_Weather Str.empty = true)
    (c_Weather_hd : PySem.W.hasDictIn K C_Weather = true)
    (c_Weather_po : PySem.W.plainOver K C_Weather = true)
    (c_Weather_sa : PySem.W.findIn K (.ref C_Weather) "__setattr__" = some (some (.builtin "object.__setattr__")))
    (c_Weather_sf : PySem.W.selfFirst K C_Weather = true)
    (c_Weather_nf : PySem.W.notFirst K C_Weather (.ref C_Weather) = true)
    (c_Weather_ha : PySem.W.findIn K (.ref C_Weather) "__class__" = some (some (.builtin "object.__class__")))
    (c_Weather_hn : PySem.W.specialIn K (.builtin "object.__class__") "__get__" = some (some (.builtin "getset_descriptor.__get__")))
    (c_Weather_ht : PySem.W.takesIn K (.builtin "object.__class__") = some true)
    (c_Weather_hm : PySem.W.mroIn K C_Weather (.type "object") = some true)
    (c_Weather_kp : PySem.W.keepIn K (.ref C_Weather) = true)
    (c_Weather_mkk : PySem.W.makesIn K C_Weather = true)
    (c_Weather_rd : PySem.W.readsIn K C_Weather (.type "type") = true)
    (c_Weather_ga : PySem.W.specialIn K (.ref C_Weather) "__getattribute__" = some (some (.builtin "type.__getattribute__")))
    (c_Weather_n___len__ : PySem.W.findIn K (.ref C_Weather) "__len__" = some none)
    (c_Weather_n___length_hint__ : PySem.W.findIn K (.ref C_Weather) "__length_hint__" = some none)
    (c_Weather_n_lengths : PySem.W.findIn K (.ref C_Weather) "lengths" = some none)
    (kit_BadHour_BadWeather : PySem.W.kitOne K (.ref C_BadHour) (.ref C_BadWeather) = some false)
    (kit_BadHour_DampError : PySem.W.kitOne K (.ref C_BadHour) (.ref C_DampError) = some true)
    (kit_BadHour_TooLarge : PySem.W.kitOne K (.ref C_BadHour) (.ref C_TooLarge) = some false)
    (kit_BadHour_ValueError : PySem.W.kitOne K (.ref C_BadHour) (.type "ValueError") = some true)
    (kit_BadWeather_BadHour : PySem.W.kitOne K (.ref C_BadWeather) (.ref C_BadHour) = some false)
    (kit_BadWeather_DampError : PySem.W.kitOne K (.ref C_BadWeather) (.ref C_DampError) = some true)
    (kit_BadWeather_TooLarge : PySem.W.kitOne K (.ref C_BadWeather) (.ref C_TooLarge) = some false)
    (kit_BadWeather_ValueError : PySem.W.kitOne K (.ref C_BadWeather) (.type "ValueError") = some true)
    (kit_Weather_Weather : PySem.W.kitOne K (.ref C_Weather) (.ref C_Weather) = some true)
    (kit_bool_bool : PySem.W.kitOne K (.type "bool") (.type "bool") = some true)
    (kit_int_bool : PySem.W.kitOne K (.type "int") (.type "bool") = some false)
    (kit_int_int : PySem.W.kitOne K (.type "int") (.type "int") = some true)
    (kit_str_str : PySem.W.kitOne K (.type "str") (.type "str") = some true)
    (kit_tuple_tuple : PySem.W.kitOne K (.type "tuple") (.type "tuple") = some true)
    (xm_BadHour_BadHour : PySem.W.exmOne K (.ref C_BadHour) (.ref C_BadHour) = some true)
    (xm_BadHour_BadWeather : PySem.W.exmOne K (.ref C_BadHour) (.ref C_BadWeather) = some false)
    (xm_BadWeather_BadHour : PySem.W.exmOne K (.ref C_BadWeather) (.ref C_BadHour) = some false)
    (xm_BadWeather_BadWeather : PySem.W.exmOne K (.ref C_BadWeather) (.ref C_BadWeather) = some true)
    (xm_DampError_BadHour : PySem.W.exmOne K (.ref C_DampError) (.ref C_BadHour) = some false)
    (xm_DampError_BadWeather : PySem.W.exmOne K (.ref C_DampError) (.ref C_BadWeather) = some false)
    (xm_TooLarge_BadHour : PySem.W.exmOne K (.ref C_TooLarge) (.ref C_BadHour) = some false)
    (xm_TooLarge_BadWeather : PySem.W.exmOne K (.ref C_TooLarge) (.ref C_BadWeather) = some false)
    (y_ValueError : PySem.W.nsIn K mainGlobals "ValueError" = some none)
    (y_bool : PySem.W.nsIn K mainGlobals "bool" = some none)
    (y_enumerate : PySem.W.nsIn K mainGlobals "enumerate" = some none)
    (y_int : PySem.W.nsIn K mainGlobals "int" = some none)
    (y_isinstance : PySem.W.nsIn K mainGlobals "isinstance" = some none)
    (y_iter : PySem.W.nsIn K mainGlobals "iter" = some none)
    (y_len : PySem.W.nsIn K mainGlobals "len" = some none)
    (y_list : PySem.W.nsIn K mainGlobals "list" = some none)
    (y_min : PySem.W.nsIn K mainGlobals "min" = some none)
    (y_range : PySem.W.nsIn K mainGlobals "range" = some none)
    (y_str : PySem.W.nsIn K mainGlobals "str" = some none)
    (y_sum : PySem.W.nsIn K mainGlobals "sum" = some none)
    (y_tuple : PySem.W.nsIn K mainGlobals "tuple" = some none)
    (y_zip : PySem.W.nsIn K mainGlobals "zip" = some none)
    (y_DAMP : PySem.W.nsIn K mainGlobals "DAMP" = some (some (.str "#" tkg_DAMP)))
    (y_DRY : PySem.W.nsIn K mainGlobals "DRY" = some (some (.str "." tkg_DRY)))
    (y_MOST_HOURS : PySem.W.nsIn K mainGlobals "MOST_HOURS" = some (some (.int 200 tkg_MOST_HOURS)))
    (a_Weather_init : PySem.W.findIn K (.ref C_Weather) "__init__" = some (some (.ref f_Weather_init)))
    (j_Weather_init : PySem.W.isFn K (.ref f_Weather_init) = true)
    (l_Weather_init : K.lookup f_Weather_init = some ⟨oc_Weather_init, od_Weather_init, .func (PySem.W.fnOf "__init__" "Weather.__init__" (defArgs s_Weather_init) (defBody s_Weather_init) (defScope s_Weather_init) .none kV_Weather_init dc_Weather_init pm_Weather_init an_Weather_init cd_Weather_init ct_Weather_init), sl_Weather_init⟩)
    (e_Weather_init : PySem.W.codeIn K cd_Weather_init "Weather.__init__" = true)
    (k_Weather_init : PySem.W.keepIn K (.ref f_Weather_init) = true)
    (a_f_ends_damp : PySem.W.nsIn K mainGlobals "_ends_damp" = some (some (.ref f_f_ends_damp)))
    (l_f_ends_damp : K.lookup f_f_ends_damp = some ⟨oc_f_ends_damp, od_f_ends_damp, .func (PySem.W.fnOf "_ends_damp" "_ends_damp" (defArgs s_f_ends_damp) (defBody s_f_ends_damp) (defScope s_f_ends_damp) .none kV_f_ends_damp dc_f_ends_damp pm_f_ends_damp an_f_ends_damp cd_f_ends_damp ct_f_ends_damp), sl_f_ends_damp⟩)
    (e_f_ends_damp : PySem.W.codeIn K cd_f_ends_damp "_ends_damp" = true)
    (k_f_ends_damp : PySem.W.keepIn K (.ref f_f_ends_damp) = true)
    (a_Weather_add : PySem.W.findIn K (.ref C_Weather) "__add__" = some (some (.ref f_Weather_add)))
    (j_Weather_add : PySem.W.isFn K (.ref f_Weather_add) = true)
    (l_Weather_add : K.lookup f_Weather_add = some ⟨oc_Weather_add, od_Weather_add, .func (PySem.W.fnOf "__add__" "Weather.__add__" (defArgs s_Weather_add) (defBody s_Weather_add) (defScope s_Weather_add) .none kV_Weather_add dc_Weather_add pm_Weather_add an_Weather_add cd_Weather_add ct_Weather_add), sl_Weather_add⟩)
    (e_Weather_add : PySem.W.codeIn K cd_Weather_add "Weather.__add__" = true)
    (k_Weather_add : PySem.W.keepIn K (.ref f_Weather_add) = true)
    (a_f_lengths_of : PySem.W.nsIn K mainGlobals "lengths_of" = some (some (.ref f_f_lengths_of)))
    (l_f_lengths_of : K.lookup f_f_lengths_of = some ⟨oc_f_lengths_of, od_f_lengths_of, .func (PySem.W.fnOf "lengths_of" "lengths_of" (defArgs s_f_lengths_of) (defBody s_f_lengths_of) (defScope s_f_lengths_of) .none kV_f_lengths_of dc_f_lengths_of pm_f_lengths_of an_f_lengths_of cd_f_lengths_of ct_f_lengths_of), sl_f_lengths_of⟩)
    (e_f_lengths_of : PySem.W.codeIn K cd_f_lengths_of "lengths_of" = true)
    (k_f_lengths_of : PySem.W.keepIn K (.ref f_f_lengths_of) = true)
    (a_Weather_of_signs : PySem.W.findCls K (.ref C_Weather) (.type "type") "of_signs" = some (.get (.builtin "staticmethod.__get__") (.ref p_Weather_of_signs) .none (.ref C_Weather)))
    (pr_Weather_of_signs : PySem.W.recIn K p_Weather_of_signs "staticmethod" = some (.ref f_Weather_of_signs :: rest_Weather_of_signs))
    (l_Weather_of_signs : K.lookup f_Weather_of_signs = some ⟨oc_Weather_of_signs, od_Weather_of_signs, .func (PySem.W.fnOf "of_signs" "Weather.of_signs" (defArgs s_Weather_of_signs) (defBody s_Weather_of_signs) (defScope s_Weather_of_signs) .none kV_Weather_of_signs dc_Weather_of_signs pm_Weather_of_signs an_Weather_of_signs cd_Weather_of_signs ct_Weather_of_signs), sl_Weather_of_signs⟩)
    (e_Weather_of_signs : PySem.W.codeIn K cd_Weather_of_signs "Weather.of_signs" = true)
    (k_Weather_of_signs : PySem.W.keepIn K (.ref f_Weather_of_signs) = true)
    (a_Weather_back : PySem.W.findIn K (.ref C_Weather) "back" = some (some (.ref f_Weather_back)))
    (j_Weather_back : PySem.W.isFn K (.ref f_Weather_back) = true)
    (l_Weather_back : K.lookup f_Weather_back = some ⟨oc_Weather_back, od_Weather_back, .func (PySem.W.fnOf "back" "Weather.back" (defArgs s_Weather_back) (defBody s_Weather_back) (defScope s_Weather_back) .none kV_Weather_back dc_Weather_back pm_Weather_back an_Weather_back cd_Weather_back ct_Weather_back), sl_Weather_back⟩)
    (e_Weather_back : PySem.W.codeIn K cd_Weather_back "Weather.back" = true)
    (k_Weather_back : PySem.W.keepIn K (.ref f_Weather_back) = true)
    (a_l_no_weather : PySem.W.nsIn K mainGlobals "_law_no_weather" = some (some (.ref f_l_no_weather)))
    (l_l_no_weather : K.lookup f_l_no_weather = some ⟨oc_l_no_weather, od_l_no_weather, .func (PySem.W.fnOf "_law_no_weather" "_law_no_weather" (defArgs s_l_no_weather) (defBody s_l_no_weather) (defScope s_l_no_weather) .none kV_l_no_weather dc_l_no_weather pm_l_no_weather an_l_no_weather cd_l_no_weather ct_l_no_weather), sl_l_no_weather⟩)
    (e_l_no_weather : PySem.W.codeIn K cd_l_no_weather "_law_no_weather" = true)
    (k_l_no_weather : PySem.W.keepIn K (.ref f_l_no_weather) = true)
    (a_Weather_hours : PySem.W.findIn K (.ref C_Weather) "hours" = some (some (.ref p_Weather_hours)))
    (pg_Weather_hours : PySem.W.specialIn K (.ref p_Weather_hours) "__get__" = some (some (.builtin "property.__get__")))
    (pt_Weather_hours : PySem.W.takesIn K (.ref p_Weather_hours) = some true)
    (pr_Weather_hours : PySem.W.recIn K p_Weather_hours "property" = some (.ref f_Weather_hours :: rest_Weather_hours))
    (l_Weather_hours : K.lookup f_Weather_hours = some ⟨oc_Weather_hours, od_Weather_hours, .func (PySem.W.fnOf "hours" "Weather.hours" (defArgs s_Weather_hours) (defBody s_Weather_hours) (defScope s_Weather_hours) .none kV_Weather_hours dc_Weather_hours pm_Weather_hours an_Weather_hours cd_Weather_hours ct_Weather_hours), sl_Weather_hours⟩)
    (e_Weather_hours : PySem.W.codeIn K cd_Weather_hours "Weather.hours" = true)
    (k_Weather_hours : PySem.W.keepIn K (.ref f_Weather_hours) = true)
    (a_Weather_check_told : PySem.W.findIn K (.ref C_Weather) "_check_told" = some (some (.ref f_Weather_check_told)))
    (j_Weather_check_told : PySem.W.isFn K (.ref f_Weather_check_told) = true)
    (l_Weather_check_told : K.lookup f_Weather_check_told = some ⟨oc_Weather_check_told, od_Weather_check_told, .func (PySem.W.fnOf "_check_told" "Weather._check_told" (defArgs s_Weather_check_told) (defBody s_Weather_check_told) (defScope s_Weather_check_told) .none kV_Weather_check_told dc_Weather_check_told pm_Weather_check_told an_Weather_check_told cd_Weather_check_told ct_Weather_check_told), sl_Weather_check_told⟩)
    (e_Weather_check_told : PySem.W.codeIn K cd_Weather_check_told "Weather._check_told" = true)
    (k_Weather_check_told : PySem.W.keepIn K (.ref f_Weather_check_told) = true)
    (a_Weather_signs : PySem.W.findIn K (.ref C_Weather) "signs" = some (some (.ref f_Weather_signs)))
    (j_Weather_signs : PySem.W.isFn K (.ref f_Weather_signs) = true)
    (l_Weather_signs : K.lookup f_Weather_signs = some ⟨oc_Weather_signs, od_Weather_signs, .func (PySem.W.fnOf "signs" "Weather.signs" (defArgs s_Weather_signs) (defBody s_Weather_signs) (defScope s_Weather_signs) .none kV_Weather_signs dc_Weather_signs pm_Weather_signs an_Weather_signs cd_Weather_signs ct_Weather_signs), sl_Weather_signs⟩)
    (e_Weather_signs : PySem.W.codeIn K cd_Weather_signs "Weather.signs" = true)
    (k_Weather_signs : PySem.W.keepIn K (.ref f_Weather_signs) = true)
    (a_Weather_is_dry : PySem.W.findIn K (.ref C_Weather) "is_dry" = some (some (.ref f_Weather_is_dry)))
    (j_Weather_is_dry : PySem.W.isFn K (.ref f_Weather_is_dry) = true)
    (l_Weather_is_dry : K.lookup f_Weather_is_dry = some ⟨oc_Weather_is_dry, od_Weather_is_dry, .func (PySem.W.fnOf "is_dry" "Weather.is_dry" (defArgs s_Weather_is_dry) (defBody s_Weather_is_dry) (defScope s_Weather_is_dry) .none kV_Weather_is_dry dc_Weather_is_dry pm_Weather_is_dry an_Weather_is_dry cd_Weather_is_dry ct_Weather_is_dry), sl_Weather_is_dry⟩)
    (e_Weather_is_dry : PySem.W.codeIn K cd_Weather_is_dry "Weather.is_dry" = true)
    (k_Weather_is_dry : PySem.W.keepIn K (.ref f_Weather_is_dry) = true)
    (a_Weather_iter : PySem.W.findIn K (.ref C_Weather) "__iter__" = some (some (.ref f_Weather_iter)))
    (j_Weather_iter : PySem.W.isFn K (.ref f_Weather_iter) = true)
    (l_Weather_iter : K.lookup f_Weather_iter = some ⟨oc_Weather_iter, od_Weather_iter, .func (PySem.W.fnOf "__iter__" "Weather.__iter__" (defArgs s_Weather_iter) (defBody s_Weather_iter) (defScope s_Weather_iter) .none kV_Weather_iter dc_Weather_iter pm_Weather_iter an_Weather_iter cd_Weather_iter ct_Weather_iter), sl_Weather_iter⟩)
    (e_Weather_iter : PySem.W.codeIn K cd_Weather_iter "Weather.__iter__" = true)
    (k_Weather_iter : PySem.W.keepIn K (.ref f_Weather_iter) = true)
    (a_l_int : PySem.W.nsIn K mainGlobals "_law_int" = some (some (.ref f_l_int)))
    (l_l_int : K.lookup f_l_int = some ⟨oc_l_int, od_l_int, .func (PySem.W.fnOf "_law_int" "_law_int" (defArgs s_l_int) (defBody s_l_int) (defScope s_l_int) .none kV_l_int dc_l_int pm_l_int an_l_int cd_l_int ct_l_int), sl_l_int⟩)
    (e_l_int : PySem.W.codeIn K cd_l_int "_law_int" = true)
    (k_l_int : PySem.W.keepIn K (.ref f_l_int) = true)
    (a_l_lengths : PySem.W.nsIn K mainGlobals "_law_lengths" = some (some (.ref f_l_lengths)))
    (l_l_lengths : K.lookup f_l_lengths = some ⟨oc_l_lengths, od_l_lengths, .func (PySem.W.fnOf "_law_lengths" "_law_lengths" (defArgs s_l_lengths) (defBody s_l_lengths) (defScope s_l_lengths) .none kV_l_lengths dc_l_lengths pm_l_lengths an_l_lengths cd_l_lengths ct_l_lengths), sl_l_lengths⟩)
    (e_l_lengths : PySem.W.codeIn K cd_l_lengths "_law_lengths" = true)
    (k_l_lengths : PySem.W.keepIn K (.ref f_l_lengths) = true)
    (a_l_rows : PySem.W.nsIn K mainGlobals "_law_rows" = some (some (.ref f_l_rows)))
    (l_l_rows : K.lookup f_l_rows = some ⟨oc_l_rows, od_l_rows, .func (PySem.W.fnOf "_law_rows" "_law_rows" (defArgs s_l_rows) (defBody s_l_rows) (defScope s_l_rows) .none kV_l_rows dc_l_rows pm_l_rows an_l_rows cd_l_rows ct_l_rows), sl_l_rows⟩)
    (e_l_rows : PySem.W.codeIn K cd_l_rows "_law_rows" = true)
    (k_l_rows : PySem.W.keepIn K (.ref f_l_rows) = true)
    (a_l_tells : PySem.W.nsIn K mainGlobals "_law_tells" = some (some (.ref f_l_tells)))
    (l_l_tells : K.lookup f_l_tells = some ⟨oc_l_tells, od_l_tells, .func (PySem.W.fnOf "_law_tells" "_law_tells" (defArgs s_l_tells) (defBody s_l_tells) (defScope s_l_tells) .none kV_l_tells dc_l_tells pm_l_tells an_l_tells cd_l_tells ct_l_tells), sl_l_tells⟩)
    (e_l_tells : PySem.W.codeIn K cd_l_tells "_law_tells" = true)
    (k_l_tells : PySem.W.keepIn K (.ref f_l_tells) = true)
    (a_l_adds : PySem.W.nsIn K mainGlobals "_law_adds" = some (some (.ref f_l_adds)))
    (l_l_adds : K.lookup f_l_adds = some ⟨oc_l_adds, od_l_adds, .func (PySem.W.fnOf "_law_adds" "_law_adds" (defArgs s_l_adds) (defBody s_l_adds) (defScope s_l_adds) .none kV_l_adds dc_l_adds pm_l_adds an_l_adds cd_l_adds ct_l_adds), sl_l_adds⟩)
    (e_l_adds : PySem.W.codeIn K cd_l_adds "_law_adds" = true)
    (k_l_adds : PySem.W.keepIn K (.ref f_l_adds) = true)
    (a_l_cell : PySem.W.nsIn K mainGlobals "_law_cell" = some (some (.ref f_l_cell)))
    (l_l_cell : K.lookup f_l_cell = some ⟨oc_l_cell, od_l_cell, .func (PySem.W.fnOf "_law_cell" "_law_cell" (defArgs s_l_cell) (defBody s_l_cell) (defScope s_l_cell) .none kV_l_cell dc_l_cell pm_l_cell an_l_cell cd_l_cell ct_l_cell), sl_l_cell⟩)
    (e_l_cell : PySem.W.codeIn K cd_l_cell "_law_cell" = true)
    (k_l_cell : PySem.W.keepIn K (.ref f_l_cell) = true)
    (a_Weather_first : PySem.W.findIn K (.ref C_Weather) "first" = some (some (.ref f_Weather_first)))
    (j_Weather_first : PySem.W.isFn K (.ref f_Weather_first) = true)
    (l_Weather_first : K.lookup f_Weather_first = some ⟨oc_Weather_first, od_Weather_first, .func (PySem.W.fnOf "first" "Weather.first" (defArgs s_Weather_first) (defBody s_Weather_first) (defScope s_Weather_first) .none kV_Weather_first dc_Weather_first pm_Weather_first an_Weather_first cd_Weather_first ct_Weather_first), sl_Weather_first⟩)
    (e_Weather_first : PySem.W.codeIn K cd_Weather_first "Weather.first" = true)
    (k_Weather_first : PySem.W.keepIn K (.ref f_Weather_first) = true)
    (a_l_no_first : PySem.W.nsIn K mainGlobals "_law_no_first" = some (some (.ref f_l_no_first)))
    (l_l_no_first : K.lookup f_l_no_first = some ⟨oc_l_no_first, od_l_no_first, .func (PySem.W.fnOf "_law_no_first" "_law_no_first" (defArgs s_l_no_first) (defBody s_l_no_first) (defScope s_l_no_first) .none kV_l_no_first dc_l_no_first pm_l_no_first an_l_no_first cd_l_no_first ct_l_no_first), sl_l_no_first⟩)
    (e_l_no_first : PySem.W.codeIn K cd_l_no_first "_law_no_first" = true)
    (k_l_no_first : PySem.W.keepIn K (.ref f_l_no_first) = true)
    (a_l_cut : PySem.W.nsIn K mainGlobals "_law_cut" = some (some (.ref f_l_cut)))
    (l_l_cut : K.lookup f_l_cut = some ⟨oc_l_cut, od_l_cut, .func (PySem.W.fnOf "_law_cut" "_law_cut" (defArgs s_l_cut) (defBody s_l_cut) (defScope s_l_cut) .none kV_l_cut dc_l_cut pm_l_cut an_l_cut cd_l_cut ct_l_cut), sl_l_cut⟩)
    (e_l_cut : PySem.W.codeIn K cd_l_cut "_law_cut" = true)
    (k_l_cut : PySem.W.keepIn K (.ref f_l_cut) = true)
    (a_Weather_eq : PySem.W.findIn K (.ref C_Weather) "__eq__" = some (some (.ref f_Weather_eq)))
    (j_Weather_eq : PySem.W.isFn K (.ref f_Weather_eq) = true)
    (l_Weather_eq : K.lookup f_Weather_eq = some ⟨oc_Weather_eq, od_Weather_eq, .func (PySem.W.fnOf "__eq__" "Weather.__eq__" (defArgs s_Weather_eq) (defBody s_Weather_eq) (defScope s_Weather_eq) .none kV_Weather_eq dc_Weather_eq pm_Weather_eq an_Weather_eq cd_Weather_eq ct_Weather_eq), sl_Weather_eq⟩)
    (e_Weather_eq : PySem.W.codeIn K cd_Weather_eq "Weather.__eq__" = true)
    (k_Weather_eq : PySem.W.keepIn K (.ref f_Weather_eq) = true)
    (a_l_equals : PySem.W.nsIn K mainGlobals "_law_equals" = some (some (.ref f_l_equals)))
    (l_l_equals : K.lookup f_l_equals = some ⟨oc_l_equals, od_l_equals, .func (PySem.W.fnOf "_law_equals" "_law_equals" (defArgs s_l_equals) (defBody s_l_equals) (defScope s_l_equals) .none kV_l_equals dc_l_equals pm_l_equals an_l_equals cd_l_equals ct_l_equals), sl_l_equals⟩)
    (e_l_equals : PySem.W.codeIn K cd_l_equals "_law_equals" = true)
    (k_l_equals : PySem.W.keepIn K (.ref f_l_equals) = true)
    (a_Weather_runs : PySem.W.findIn K (.ref C_Weather) "runs" = some (some (.ref f_Weather_runs)))
    (j_Weather_runs : PySem.W.isFn K (.ref f_Weather_runs) = true)
    (l_Weather_runs : K.lookup f_Weather_runs = some ⟨oc_Weather_runs, od_Weather_runs, .func (PySem.W.fnOf "runs" "Weather.runs" (defArgs s_Weather_runs) (defBody s_Weather_runs) (defScope s_Weather_runs) .none kV_Weather_runs dc_Weather_runs pm_Weather_runs an_Weather_runs cd_Weather_runs ct_Weather_runs), sl_Weather_runs⟩)
    (e_Weather_runs : PySem.W.codeIn K cd_Weather_runs "Weather.runs" = true)
    (k_Weather_runs : PySem.W.keepIn K (.ref f_Weather_runs) = true)
    (a_Weather_spells : PySem.W.findIn K (.ref C_Weather) "spells" = some (some (.ref f_Weather_spells)))
    (j_Weather_spells : PySem.W.isFn K (.ref f_Weather_spells) = true)
    (l_Weather_spells : K.lookup f_Weather_spells = some ⟨oc_Weather_spells, od_Weather_spells, .func (PySem.W.fnOf "spells" "Weather.spells" (defArgs s_Weather_spells) (defBody s_Weather_spells) (defScope s_Weather_spells) .none kV_Weather_spells dc_Weather_spells pm_Weather_spells an_Weather_spells cd_Weather_spells ct_Weather_spells), sl_Weather_spells⟩)
    (e_Weather_spells : PySem.W.codeIn K cd_Weather_spells "Weather.spells" = true)
    (k_Weather_spells : PySem.W.keepIn K (.ref f_Weather_spells) = true)
    (a_l_runs : PySem.W.nsIn K mainGlobals "_law_runs" = some (some (.ref f_l_runs)))
    (l_l_runs : K.lookup f_l_runs = some ⟨oc_l_runs, od_l_runs, .func (PySem.W.fnOf "_law_runs" "_law_runs" (defArgs s_l_runs) (defBody s_l_runs) (defScope s_l_runs) .none kV_l_runs dc_l_runs pm_l_runs an_l_runs cd_l_runs ct_l_runs), sl_l_runs⟩)
    (e_l_runs : PySem.W.codeIn K cd_l_runs "_law_runs" = true)
    (k_l_runs : PySem.W.keepIn K (.ref f_l_runs) = true)
    (a_l_spells : PySem.W.nsIn K mainGlobals "_law_spells" = some (some (.ref f_l_spells)))
    (l_l_spells : K.lookup f_l_spells = some ⟨oc_l_spells, od_l_spells, .func (PySem.W.fnOf "_law_spells" "_law_spells" (defArgs s_l_spells) (defBody s_l_spells) (defScope s_l_spells) .none kV_l_spells dc_l_spells pm_l_spells an_l_spells cd_l_spells ct_l_spells), sl_l_spells⟩)
    (e_l_spells : PySem.W.codeIn K cd_l_spells "_law_spells" = true)
    (k_l_spells : PySem.W.keepIn K (.ref f_l_spells) = true)
    (a_l_parts : PySem.W.nsIn K mainGlobals "_law_parts" = some (some (.ref f_l_parts)))
    (l_l_parts : K.lookup f_l_parts = some ⟨oc_l_parts, od_l_parts, .func (PySem.W.fnOf "_law_parts" "_law_parts" (defArgs s_l_parts) (defBody s_l_parts) (defScope s_l_parts) .none kV_l_parts dc_l_parts pm_l_parts an_l_parts cd_l_parts ct_l_parts), sl_l_parts⟩)
    (e_l_parts : PySem.W.codeIn K cd_l_parts "_law_parts" = true)
    (k_l_parts : PySem.W.keepIn K (.ref f_l_parts) = true)
    (a_l_joins : PySem.W.nsIn K mainGlobals "_law_joins" = some (some (.ref f_l_joins)))
    (l_l_joins : K.lookup f_l_joins = some ⟨oc_l_joins, od_l_joins, .func (PySem.W.fnOf "_law_joins" "_law_joins" (defArgs s_l_joins) (defBody s_l_joins) (defScope s_l_joins) .none kV_l_joins dc_l_joins pm_l_joins an_l_joins cd_l_joins ct_l_joins), sl_l_joins⟩)
    (e_l_joins : PySem.W.codeIn K cd_l_joins "_law_joins" = true)
    (k_l_joins : PySem.W.keepIn K (.ref f_l_joins) = true)
    (a_l_pool : PySem.W.nsIn K mainGlobals "_law_pool" = some (some (.ref f_l_pool)))
    (l_l_pool : K.lookup f_l_pool = some ⟨oc_l_pool, od_l_pool, .func (PySem.W.fnOf "_law_pool" "_law_pool" (defArgs s_l_pool) (defBody s_l_pool) (defScope s_l_pool) .none kV_l_pool dc_l_pool pm_l_pool an_l_pool cd_l_pool ct_l_pool), sl_l_pool⟩)
    (e_l_pool : PySem.W.codeIn K cd_l_pool "_law_pool" = true)
    (k_l_pool : PySem.W.keepIn K (.ref f_l_pool) = true)
    (a_l_take : PySem.W.nsIn K mainGlobals "_law_take" = some (some (.ref f_l_take)))
    (l_l_take : K.lookup f_l_take = some ⟨oc_l_take, od_l_take, .func (PySem.W.fnOf "_law_take" "_law_take" (defArgs s_l_take) (defBody s_l_take) (defScope s_l_take) .none kV_l_take dc_l_take pm_l_take an_l_take cd_l_take ct_l_take), sl_l_take⟩)
    (e_l_take : PySem.W.codeIn K cd_l_take "_law_take" = true)
    (k_l_take : PySem.W.keepIn K (.ref f_l_take) = true)
    (a_l_signs : PySem.W.nsIn K mainGlobals "_law_signs" = some (some (.ref f_l_signs)))
    (l_l_signs : K.lookup f_l_signs = some ⟨oc_l_signs, od_l_signs, .func (PySem.W.fnOf "_law_signs" "_law_signs" (defArgs s_l_signs) (defBody s_l_signs) (defScope s_l_signs) .none kV_l_signs dc_l_signs pm_l_signs an_l_signs cd_l_signs ct_l_signs), sl_l_signs⟩)
    (e_l_signs : PySem.W.codeIn K cd_l_signs "_law_signs" = true)
    (k_l_signs : PySem.W.keepIn K (.ref f_l_signs) = true)
    (a_l_size : PySem.W.nsIn K mainGlobals "_law_size" = some (some (.ref f_l_size)))
    (l_l_size : K.lookup f_l_size = some ⟨oc_l_size, od_l_size, .func (PySem.W.fnOf "_law_size" "_law_size" (defArgs s_l_size) (defBody s_l_size) (defScope s_l_size) .none kV_l_size dc_l_size pm_l_size an_l_size cd_l_size ct_l_size), sl_l_size⟩)
    (e_l_size : PySem.W.codeIn K cd_l_size "_law_size" = true)
    (k_l_size : PySem.W.keepIn K (.ref f_l_size) = true)
    (a_l_turns : PySem.W.nsIn K mainGlobals "_law_turns" = some (some (.ref f_l_turns)))
    (l_l_turns : K.lookup f_l_turns = some ⟨oc_l_turns, od_l_turns, .func (PySem.W.fnOf "_law_turns" "_law_turns" (defArgs s_l_turns) (defBody s_l_turns) (defScope s_l_turns) .none kV_l_turns dc_l_turns pm_l_turns an_l_turns cd_l_turns ct_l_turns), sl_l_turns⟩)
    (e_l_turns : PySem.W.codeIn K cd_l_turns "_law_turns" = true)
    (k_l_turns : PySem.W.keepIn K (.ref f_l_turns) = true)
    (a_l_law : PySem.W.nsIn K mainGlobals "law" = some (some (.ref f_l_law)))
    (l_l_law : K.lookup f_l_law = some ⟨oc_l_law, od_l_law, .func (PySem.W.fnOf "law" "law" (defArgs s_l_law) (defBody s_l_law) (defScope s_l_law) .none kV_l_law dc_l_law pm_l_law an_l_law cd_l_law ct_l_law), sl_l_law⟩)
    (e_l_law : PySem.W.codeIn K cd_l_law "law" = true)
    (k_l_law : PySem.W.keepIn K (.ref f_l_law) = true) :
    ∃ fd : FuncData, (∀ (s : Shared) (v : Value), BindsTo s fd ⟨[v], []⟩ [("script", v)]) ∧ ∀ base : Heap, K.In base → base.Ns mainGlobals mg → FnOk l.prog w K mg base CX0 8 fa fd ["script"] (spLaw K) := by
  have e := hfa.symm.trans (PySem.W.mg_of X G a_l_law)
  cases e
  have T_BadHour : S_BadHour K mg ((adOf C_BadHour C_BadWeather C_DampError C_TooLarge C_Weather) .BadHour) := ⟨PySem.W.mg_of X G a_BadHour, c_BadHour_x, c_BadHour_kp, c_BadHour_b, c_BadHour_t, c_BadHour_i, c_BadHour_s, c_BadHour_hg, c_BadHour_hk, c_BadHour_hd, c_BadHour_ha, c_BadHour_hn, c_BadHour_ht, c_BadHour_hm⟩
  have T_BadWeather : S_BadWeather K mg ((adOf C_BadHour C_BadWeather C_DampError C_TooLarge C_Weather) .BadWeather) := ⟨PySem.W.mg_of X G a_BadWeather, c_BadWeather_x, c_BadWeather_kp, c_BadWeather_b, c_BadWeather_t, c_BadWeather_i, c_BadWeather_s, c_BadWeather_hg, c_BadWeather_hk, c_BadWeather_hd, c_BadWeather_ha, c_BadWeather_hn, c_BadWeather_ht, c_BadWeather_hm⟩
  have T_DampError : S_DampError K mg ((adOf C_BadHour C_BadWeather C_DampError C_TooLarge C_Weather) .DampError) := ⟨PySem.W.mg_of X G a_DampError, c_DampError_x, c_DampError_kp, c_DampError_b, c_DampError_t, c_DampError_i, c_DampError_s, c_DampError_hg, c_DampError_hk, c_DampError_hd, c_DampError_ha, c_DampError_hn, c_DampError_ht, c_DampError_hm⟩
  have T_TooLarge : S_TooLarge K mg ((adOf C_BadHour C_BadWeather C_DampError C_TooLarge C_Weather) .TooLarge) := ⟨PySem.W.mg_of X G a_TooLarge, c_TooLarge_x, c_TooLarge_kp, c_TooLarge_b, c_TooLarge_t, c_TooLarge_i, c_TooLarge_s, c_TooLarge_hg, c_TooLarge_hk, c_TooLarge_hd, c_TooLarge_ha, c_TooLarge_hn, c_TooLarge_ht, c_TooLarge_hm⟩
  have T_Weather : S_Weather K mg ((adOf C_BadHour C_BadWeather C_DampError C_TooLarge C_Weather) .Weather) := ⟨c_Weather_pg, c_Weather_hd, c_Weather_po, c_Weather_sa, PySem.W.mg_of X G a_Weather, c_Weather_sf, c_Weather_nf, c_Weather_ha, c_Weather_hn, c_Weather_ht, c_Weather_hm, c_Weather_kp, c_Weather_mkk, c_Weather_rd, c_Weather_ga, c_Weather_n___len__, c_Weather_n___length_hint__, c_Weather_n_lengths⟩
  have z_ValueError : mg "ValueError" = none := PySem.W.mg_none_of X G y_ValueError
  have z_bool : mg "bool" = none := PySem.W.mg_none_of X G y_bool
  have z_enumerate : mg "enumerate" = none := PySem.W.mg_none_of X G y_enumerate
  have z_int : mg "int" = none := PySem.W.mg_none_of X G y_int
  have z_isinstance : mg "isinstance" = none := PySem.W.mg_none_of X G y_isinstance
  have z_iter : mg "iter" = none := PySem.W.mg_none_of X G y_iter
  have z_len : mg "len" = none := PySem.W.mg_none_of X G y_len
  have z_list : mg "list" = none := PySem.W.mg_none_of X G y_list
  have z_min : mg "min" = none := PySem.W.mg_none_of X G y_min
  have z_range : mg "range" = none := PySem.W.mg_none_of X G y_range
  have z_str : mg "str" = none := PySem.W.mg_none_of X G y_str
  have z_sum : mg "sum" = none := PySem.W.mg_none_of X G y_sum
  have z_tuple : mg "tuple" = none := PySem.W.mg_none_of X G y_tuple
  have z_zip : mg "zip" = none := PySem.W.mg_none_of X G y_zip
  have g_DAMP : ∃ u, mg "DAMP" = some u ∧ RelV (.str "#") u := ⟨_, PySem.W.mg_of X G y_DAMP, ⟨_, rfl⟩⟩
  have g_DRY : ∃ u, mg "DRY" = some u ∧ RelV (.str ".") u := ⟨_, PySem.W.mg_of X G y_DRY, ⟨_, rfl⟩⟩
  have g_MOST_HOURS : ∃ u, mg "MOST_HOURS" = some u ∧ RelV (.int 200) u := ⟨_, PySem.W.mg_of X G y_MOST_HOURS, ⟨_, rfl⟩⟩
  refine ⟨PySem.W.fnOf "law" "law" (defArgs s_l_law) (defBody s_l_law) (defScope s_l_law) .none kV_l_law dc_l_law pm_l_law an_l_law cd_l_law ct_l_law, fun s v => .of_eq rfl, fun base _ _ => ?_⟩
  have F_Weather_init := fun_mk (st := s_Weather_init) l_Weather_init e_Weather_init k_Weather_init
  have b_Weather_init := F_Weather_init.binds (ps := ["self", "lengths"]) fun _ _ _ _ _ _ us hl => match us, hl with | [_, _], _ => rfl
  have I_Weather : Mk K ((adOf C_BadHour C_BadWeather C_DampError C_TooLarge C_Weather) .Weather) f_Weather_init := ⟨c_Weather_mkk, a_Weather_init, j_Weather_init, c_Weather_kp⟩
  have O_Weather_init : FnOk l.prog w K mg base (L2.CX l.prog w) 1 f_Weather_init _ ["self", "lengths"] (spP K (adOf C_BadHour C_BadWeather C_DampError C_TooLarge C_Weather) 2 G_Weather_init) := ok_Weather_init (ad := (adOf C_BadHour C_BadWeather C_DampError C_TooLarge C_Weather)) F_Weather_init (T_BadWeather := T_BadWeather) (T_Weather := T_Weather) (z_min := z_min) (z_sum := z_sum) (z_tuple := z_tuple) (g_MOST_HOURS := g_MOST_HOURS)
  have F_f_ends_damp := fun_mk (st := s_f_ends_damp) l_f_ends_damp e_f_ends_damp k_f_ends_damp
  have b_f_ends_damp := F_f_ends_damp.binds (ps := ["lengths"]) fun _ _ _ _ _ _ us hl => match us, hl with | [_], _ => rfl
  have m_f_ends_damp := PySem.W.mg_of X G a_f_ends_damp
  have O_f_ends_damp : FnOk l.prog w K mg base CX0 1 f_f_ends_damp _ ["lengths"] (spP K (adOf C_BadHour C_BadWeather C_DampError C_TooLarge C_Weather) 1 G_f_ends_damp) := ok_f_ends_damp (ad := (adOf C_BadHour C_BadWeather C_DampError C_TooLarge C_Weather)) F_f_ends_damp (z_len := z_len)
  have F_Weather_add := fun_mk (st := s_Weather_add) l_Weather_add e_Weather_add k_Weather_add
  have b_Weather_add := F_Weather_add.binds (ps := ["self", "other"]) fun _ _ _ _ _ _ us hl => match us, hl with | [_, _], _ => rfl
  have M_Weather_add : Meth K ((adOf C_BadHour C_BadWeather C_DampError C_TooLarge C_Weather) .Weather) "__add__" f_Weather_add := ⟨a_Weather_add, j_Weather_add, k_Weather_add⟩
  have O_Weather_add : FnOk l.prog w K mg base (L2.CX l.prog w) 3 f_Weather_add _ ["self", "other"] (spP K (adOf C_BadHour C_BadWeather C_DampError C_TooLarge C_Weather) 2 G_Weather_add) := ok_Weather_add (ad := (adOf C_BadHour C_BadWeather C_DampError C_TooLarge C_Weather)) F_Weather_add (T_Weather := T_Weather) (O_f_ends_damp := O_f_ends_damp) (m_f_ends_damp := m_f_ends_damp) (k_f_ends_damp := k_f_ends_damp) (b_f_ends_damp := b_f_ends_damp) (O_Weather_init := O_Weather_init) (b_Weather_init := b_Weather_init) (I_Weather := I_Weather)
  have F_f_lengths_of := fun_mk (st := s_f_lengths_of) l_f_lengths_of e_f_lengths_of k_f_lengths_of
  have b_f_lengths_of := F_f_lengths_of.binds (ps := ["signs"]) fun _ _ _ _ _ _ us hl => match us, hl with | [_], _ => rfl
  have m_f_lengths_of := PySem.W.mg_of X G a_f_lengths_of
  have O_f_lengths_of : FnOk l.prog w K mg base CX0 1 f_f_lengths_of _ ["signs"] (spP K (adOf C_BadHour C_BadWeather C_DampError C_TooLarge C_Weather) 1 G_f_lengths_of) := ok_f_lengths_of (ad := (adOf C_BadHour C_BadWeather C_DampError C_TooLarge C_Weather)) F_f_lengths_of 
  have F_Weather_of_signs := fun_mk (st := s_Weather_of_signs) l_Weather_of_signs e_Weather_of_signs k_Weather_of_signs
  have b_Weather_of_signs := F_Weather_of_signs.binds (ps := ["signs"]) fun _ _ _ _ _ _ us hl => match us, hl with | [_], _ => rfl
  have SM_Weather_of_signs : SMet K ((adOf C_BadHour C_BadWeather C_DampError C_TooLarge C_Weather) .Weather) (.type "type") "of_signs" p_Weather_of_signs f_Weather_of_signs := ⟨a_Weather_of_signs, ⟨rest_Weather_of_signs, pr_Weather_of_signs⟩⟩
  have O_Weather_of_signs : FnOk l.prog w K mg base (L2.CX l.prog w) 3 f_Weather_of_signs _ ["signs"] (spP K (adOf C_BadHour C_BadWeather C_DampError C_TooLarge C_Weather) 1 G_Weather_of_signs) := ok_Weather_of_signs (ad := (adOf C_BadHour C_BadWeather C_DampError C_TooLarge C_Weather)) F_Weather_of_signs (T_BadWeather := T_BadWeather) (T_Weather := T_Weather) (z_len := z_len) (g_DAMP := g_DAMP) (g_DRY := g_DRY) (g_MOST_HOURS := g_MOST_HOURS) (O_f_lengths_of := O_f_lengths_of) (m_f_lengths_of := m_f_lengths_of) (k_f_lengths_of := k_f_lengths_of) (b_f_lengths_of := b_f_lengths_of) (O_Weather_init := O_Weather_init) (b_Weather_init := b_Weather_init) (I_Weather := I_Weather)
  have F_Weather_back := fun_mk (st := s_Weather_back) l_Weather_back e_Weather_back k_Weather_back
  have b_Weather_back := F_Weather_back.binds (ps := ["self"]) fun _ _ _ _ _ _ us hl => match us, hl with | [_], _ => rfl
  have M_Weather_back : Meth K ((adOf C_BadHour C_BadWeather C_DampError C_TooLarge C_Weather) .Weather) "back" f_Weather_back := ⟨a_Weather_back, j_Weather_back, k_Weather_back⟩
  have O_Weather_back : FnOk l.prog w K mg base (L2.CX l.prog w) 3 f_Weather_back _ ["self"] (spP K (adOf C_BadHour C_BadWeather C_DampError C_TooLarge C_Weather) 1 G_Weather_back) := ok_Weather_back (ad := (adOf C_BadHour C_BadWeather C_DampError C_TooLarge C_Weather)) F_Weather_back (T_BadWeather := T_BadWeather) (T_Weather := T_Weather) (O_f_ends_damp := O_f_ends_damp) (m_f_ends_damp := m_f_ends_damp) (k_f_ends_damp := k_f_ends_damp) (b_f_ends_damp := b_f_ends_damp) (O_Weather_init := O_Weather_init) (b_Weather_init := b_Weather_init) (I_Weather := I_Weather)
  have F_l_no_weather := fun_mk (st := s_l_no_weather) l_l_no_weather e_l_no_weather k_l_no_weather
  have b_l_no_weather := F_l_no_weather.binds (ps := ["x", "y", "z", "way"]) fun _ _ _ _ _ _ us hl => match us, hl with | [_, _, _, _], _ => rfl
  have m_l_no_weather := PySem.W.mg_of X G a_l_no_weather
  have O_l_no_weather : FnOk l.prog w K mg base CX0 4 f_l_no_weather _ ["x", "y", "z", "way"] (spP K (adOf C_BadHour C_BadWeather C_DampError C_TooLarge C_Weather) 4 G_l_no_weather) := ok_l_no_weather (ad := (adOf C_BadHour C_BadWeather C_DampError C_TooLarge C_Weather)) F_l_no_weather (T_BadHour := T_BadHour) (T_BadWeather := T_BadWeather) (T_DampError := T_DampError) (T_TooLarge := T_TooLarge) (T_Weather := T_Weather) (z_ValueError := z_ValueError) (z_isinstance := z_isinstance) (kit_BadWeather_BadHour := kit_BadWeather_BadHour) (kit_BadWeather_DampError := kit_BadWeather_DampError) (kit_BadWeather_TooLarge := kit_BadWeather_TooLarge) (kit_BadWeather_ValueError := kit_BadWeather_ValueError) (xm_BadHour_BadWeather := xm_BadHour_BadWeather) (xm_BadWeather_BadWeather := xm_BadWeather_BadWeather) (xm_DampError_BadWeather := xm_DampError_BadWeather) (xm_TooLarge_BadWeather := xm_TooLarge_BadWeather) (O_Weather_add := O_Weather_add) (b_Weather_add := b_Weather_add) (M_Weather_add := M_Weather_add) (O_Weather_back := O_Weather_back) (b_Weather_back := b_Weather_back) (M_Weather_back := M_Weather_back)
  have F_Weather_hours := fun_mk (st := s_Weather_hours) l_Weather_hours e_Weather_hours k_Weather_hours
  have b_Weather_hours := F_Weather_hours.binds (ps := ["self"]) fun _ _ _ _ _ _ us hl => match us, hl with | [_], _ => rfl
  have P_Weather_hours : PropOf K ((adOf C_BadHour C_BadWeather C_DampError C_TooLarge C_Weather) .Weather) "hours" p_Weather_hours f_Weather_hours := ⟨a_Weather_hours, pg_Weather_hours, pt_Weather_hours, ⟨rest_Weather_hours, pr_Weather_hours⟩⟩
  have O_Weather_hours : FnOk l.prog w K mg base CX0 1 f_Weather_hours _ ["self"] (spP K (adOf C_BadHour C_BadWeather C_DampError C_TooLarge C_Weather) 1 G_Weather_hours) := ok_Weather_hours (ad := (adOf C_BadHour C_BadWeather C_DampError C_TooLarge C_Weather)) F_Weather_hours (T_Weather := T_Weather) (z_sum := z_sum)
  have F_Weather_check_told := fun_mk (st := s_Weather_check_told) l_Weather_check_told e_Weather_check_told k_Weather_check_told
  have b_Weather_check_told := F_Weather_check_told.binds (ps := ["self", "hour"]) fun _ _ _ _ _ _ us hl => match us, hl with | [_, _], _ => rfl
  have M_Weather_check_told : Meth K ((adOf C_BadHour C_BadWeather C_DampError C_TooLarge C_Weather) .Weather) "_check_told" f_Weather_check_told := ⟨a_Weather_check_told, j_Weather_check_told, k_Weather_check_told⟩
  have O_Weather_check_told : FnOk l.prog w K mg base (L2.CX l.prog w) 3 f_Weather_check_told _ ["self", "hour"] (spP K (adOf C_BadHour C_BadWeather C_DampError C_TooLarge C_Weather) 2 G_Weather_check_told) := ok_Weather_check_told (ad := (adOf C_BadHour C_BadWeather C_DampError C_TooLarge C_Weather)) F_Weather_check_told (T_BadHour := T_BadHour) (T_Weather := T_Weather) (O_Weather_hours := O_Weather_hours) (b_Weather_hours := b_Weather_hours) (P_Weather_hours := P_Weather_hours)
  have F_Weather_signs := fun_mk (st := s_Weather_signs) l_Weather_signs e_Weather_signs k_Weather_signs
  have b_Weather_signs := F_Weather_signs.binds (ps := ["self"]) fun _ _ _ _ _ _ us hl => match us, hl with | [_], _ => rfl
  have M_Weather_signs : Meth K ((adOf C_BadHour C_BadWeather C_DampError C_TooLarge C_Weather) .Weather) "signs" f_Weather_signs := ⟨a_Weather_signs, j_Weather_signs, k_Weather_signs⟩
  have O_Weather_signs : FnOk l.prog w K mg base CX0 1 f_Weather_signs _ ["self"] (spP K (adOf C_BadHour C_BadWeather C_DampError C_TooLarge C_Weather) 1 G_Weather_signs) := ok_Weather_signs (ad := (adOf C_BadHour C_BadWeather C_DampError C_TooLarge C_Weather)) F_Weather_signs (T_Weather := T_Weather) (z_enumerate := z_enumerate) (g_DAMP := g_DAMP) (g_DRY := g_DRY)
  have F_Weather_is_dry := fun_mk (st := s_Weather_is_dry) l_Weather_is_dry e_Weather_is_dry k_Weather_is_dry
  have b_Weather_is_dry := F_Weather_is_dry.binds (ps := ["self", "hour"]) fun _ _ _ _ _ _ us hl => match us, hl with | [_, _], _ => rfl
  have M_Weather_is_dry : Meth K ((adOf C_BadHour C_BadWeather C_DampError C_TooLarge C_Weather) .Weather) "is_dry" f_Weather_is_dry := ⟨a_Weather_is_dry, j_Weather_is_dry, k_Weather_is_dry⟩
  have O_Weather_is_dry : FnOk l.prog w K mg base (L2.CX l.prog w) 4 f_Weather_is_dry _ ["self", "hour"] (spP K (adOf C_BadHour C_BadWeather C_DampError C_TooLarge C_Weather) 2 G_Weather_is_dry) := ok_Weather_is_dry (ad := (adOf C_BadHour C_BadWeather C_DampError C_TooLarge C_Weather)) F_Weather_is_dry (T_Weather := T_Weather) (g_DRY := g_DRY) (O_Weather_check_told := O_Weather_check_told) (b_Weather_check_told := b_Weather_check_told) (M_Weather_check_told := M_Weather_check_told) (O_Weather_signs := O_Weather_signs) (b_Weather_signs := b_Weather_signs) (M_Weather_signs := M_Weather_signs)
  have F_Weather_iter := fun_mk (st := s_Weather_iter) l_Weather_iter e_Weather_iter k_Weather_iter
  have b_Weather_iter := F_Weather_iter.binds (ps := ["self"]) fun _ _ _ _ _ _ us hl => match us, hl with | [_], _ => rfl
  have M_Weather_iter : Meth K ((adOf C_BadHour C_BadWeather C_DampError C_TooLarge C_Weather) .Weather) "__iter__" f_Weather_iter := ⟨a_Weather_iter, j_Weather_iter, k_Weather_iter⟩
  have O_Weather_iter : OW.FnS l.prog w K mg base 1 f_Weather_iter _ ["self"] (spIt K ((adOf C_BadHour C_BadWeather C_DampError C_TooLarge C_Weather) .Weather) "lengths") := ok_Weather_iter (ad := (adOf C_BadHour C_BadWeather C_DampError C_TooLarge C_Weather)) F_Weather_iter (T_Weather := T_Weather) (z_iter := z_iter)
  have F_l_int := fun_mk (st := s_l_int) l_l_int e_l_int k_l_int
  have b_l_int := F_l_int.binds (ps := ["x"]) fun _ _ _ _ _ _ us hl => match us, hl with | [_], _ => rfl
  have m_l_int := PySem.W.mg_of X G a_l_int
  have O_l_int : FnOk l.prog w K mg base CX0 1 f_l_int _ ["x"] (spP K (adOf C_BadHour C_BadWeather C_DampError C_TooLarge C_Weather) 1 G_l_int) := ok_l_int (ad := (adOf C_BadHour C_BadWeather C_DampError C_TooLarge C_Weather)) F_l_int (z_bool := z_bool) (z_int := z_int) (z_isinstance := z_isinstance) (kit_int_bool := kit_int_bool) (kit_int_int := kit_int_int)
  have F_l_lengths := fun_mk (st := s_l_lengths) l_l_lengths e_l_lengths k_l_lengths
  have b_l_lengths := F_l_lengths.binds (ps := ["signs"]) fun _ _ _ _ _ _ us hl => match us, hl with | [_], _ => rfl
  have m_l_lengths := PySem.W.mg_of X G a_l_lengths
  have O_l_lengths : FnOk l.prog w K mg base CX0 1 f_l_lengths _ ["signs"] (spP K (adOf C_BadHour C_BadWeather C_DampError C_TooLarge C_Weather) 1 G_l_lengths) := ok_l_lengths (ad := (adOf C_BadHour C_BadWeather C_DampError C_TooLarge C_Weather)) F_l_lengths (z_len := z_len) (z_range := z_range)
  have F_l_rows := fun_mk (st := s_l_rows) l_l_rows e_l_rows k_l_rows
  have b_l_rows := F_l_rows.binds (ps := ["actual", "due"]) fun _ _ _ _ _ _ us hl => match us, hl with | [_, _], _ => rfl
  have m_l_rows := PySem.W.mg_of X G a_l_rows
  have O_l_rows : FnOk l.prog w K mg base CX0 2 f_l_rows _ ["actual", "due"] (spP K (adOf C_BadHour C_BadWeather C_DampError C_TooLarge C_Weather) 2 G_l_rows) := ok_l_rows (ad := (adOf C_BadHour C_BadWeather C_DampError C_TooLarge C_Weather)) F_l_rows (z_isinstance := z_isinstance) (z_len := z_len) (z_range := z_range) (z_tuple := z_tuple) (kit_tuple_tuple := kit_tuple_tuple) (O_l_int := O_l_int) (m_l_int := m_l_int) (k_l_int := k_l_int) (b_l_int := b_l_int)
  have F_l_tells := fun_mk (st := s_l_tells) l_l_tells e_l_tells k_l_tells
  have b_l_tells := F_l_tells.binds (ps := ["weather", "signs"]) fun _ _ _ _ _ _ us hl => match us, hl with | [_, _], _ => rfl
  have m_l_tells := PySem.W.mg_of X G a_l_tells
  have O_l_tells : FnOk l.prog w K mg base CX0 5 f_l_tells _ ["weather", "signs"] (spP K (adOf C_BadHour C_BadWeather C_DampError C_TooLarge C_Weather) 2 G_l_tells) := ok_l_tells (ad := (adOf C_BadHour C_BadWeather C_DampError C_TooLarge C_Weather)) F_l_tells (T_Weather := T_Weather) (z_bool := z_bool) (z_isinstance := z_isinstance) (z_len := z_len) (z_list := z_list) (z_str := z_str) (z_tuple := z_tuple) (kit_Weather_Weather := kit_Weather_Weather) (kit_bool_bool := kit_bool_bool) (kit_str_str := kit_str_str) (kit_tuple_tuple := kit_tuple_tuple) (O_l_int := O_l_int) (m_l_int := m_l_int) (k_l_int := k_l_int) (b_l_int := b_l_int) (O_l_lengths := O_l_lengths) (m_l_lengths := m_l_lengths) (k_l_lengths := k_l_lengths) (b_l_lengths := b_l_lengths) (O_l_rows := O_l_rows) (m_l_rows := m_l_rows) (k_l_rows := k_l_rows) (b_l_rows := b_l_rows) (O_Weather_hours := O_Weather_hours) (b_Weather_hours := b_Weather_hours) (P_Weather_hours := P_Weather_hours) (O_Weather_is_dry := O_Weather_is_dry) (b_Weather_is_dry := b_Weather_is_dry) (M_Weather_is_dry := M_Weather_is_dry) (O_Weather_iter := O_Weather_iter) (b_Weather_iter := b_Weather_iter) (M_Weather_iter := M_Weather_iter) (O_Weather_signs := O_Weather_signs) (b_Weather_signs := b_Weather_signs) (M_Weather_signs := M_Weather_signs)
  have F_l_adds := fun_mk (st := s_l_adds) l_l_adds e_l_adds k_l_adds
  have b_l_adds := F_l_adds.binds (ps := ["x", "y", "before", "behind"]) fun _ _ _ _ _ _ us hl => match us, hl with | [_, _, _, _], _ => rfl
  have m_l_adds := PySem.W.mg_of X G a_l_adds
  have O_l_adds : FnOk l.prog w K mg base CX0 6 f_l_adds _ ["x", "y", "before", "behind"] (spP K (adOf C_BadHour C_BadWeather C_DampError C_TooLarge C_Weather) 4 G_l_adds) := ok_l_adds (ad := (adOf C_BadHour C_BadWeather C_DampError C_TooLarge C_Weather)) F_l_adds (T_Weather := T_Weather) (z_len := z_len) (O_l_no_weather := O_l_no_weather) (m_l_no_weather := m_l_no_weather) (k_l_no_weather := k_l_no_weather) (b_l_no_weather := b_l_no_weather) (O_l_tells := O_l_tells) (m_l_tells := m_l_tells) (k_l_tells := k_l_tells) (b_l_tells := b_l_tells) (O_Weather_add := O_Weather_add) (b_Weather_add := b_Weather_add) (M_Weather_add := M_Weather_add)
  have F_l_cell := fun_mk (st := s_l_cell) l_l_cell e_l_cell k_l_cell
  have b_l_cell := F_l_cell.binds (ps := ["script", "k"]) fun _ _ _ _ _ _ us hl => match us, hl with | [_, _], _ => rfl
  have m_l_cell := PySem.W.mg_of X G a_l_cell
  have O_l_cell : FnOk l.prog w K mg base CX0 1 f_l_cell _ ["script", "k"] (spP K (adOf C_BadHour C_BadWeather C_DampError C_TooLarge C_Weather) 2 G_l_cell) := ok_l_cell (ad := (adOf C_BadHour C_BadWeather C_DampError C_TooLarge C_Weather)) F_l_cell (z_len := z_len)
  have F_Weather_first := fun_mk (st := s_Weather_first) l_Weather_first e_Weather_first k_Weather_first
  have b_Weather_first := F_Weather_first.binds (ps := ["self", "n"]) fun _ _ _ _ _ _ us hl => match us, hl with | [_, _], _ => rfl
  have M_Weather_first : Meth K ((adOf C_BadHour C_BadWeather C_DampError C_TooLarge C_Weather) .Weather) "first" f_Weather_first := ⟨a_Weather_first, j_Weather_first, k_Weather_first⟩
  have O_Weather_first : FnOk l.prog w K mg base (L2.CX l.prog w) 4 f_Weather_first _ ["self", "n"] (spP K (adOf C_BadHour C_BadWeather C_DampError C_TooLarge C_Weather) 2 G_Weather_first) := ok_Weather_first (ad := (adOf C_BadHour C_BadWeather C_DampError C_TooLarge C_Weather)) F_Weather_first (T_Weather := T_Weather) (O_Weather_check_told := O_Weather_check_told) (b_Weather_check_told := b_Weather_check_told) (M_Weather_check_told := M_Weather_check_told) (O_Weather_of_signs := O_Weather_of_signs) (b_Weather_of_signs := b_Weather_of_signs) (SM_Weather_of_signs := SM_Weather_of_signs) (k_Weather_of_signs := k_Weather_of_signs) (O_Weather_signs := O_Weather_signs) (b_Weather_signs := b_Weather_signs) (M_Weather_signs := M_Weather_signs)
  have F_l_no_first := fun_mk (st := s_l_no_first) l_l_no_first e_l_no_first k_l_no_first
  have b_l_no_first := F_l_no_first.binds (ps := ["weather", "n"]) fun _ _ _ _ _ _ us hl => match us, hl with | [_, _], _ => rfl
  have m_l_no_first := PySem.W.mg_of X G a_l_no_first
  have O_l_no_first : FnOk l.prog w K mg base CX0 5 f_l_no_first _ ["weather", "n"] (spP K (adOf C_BadHour C_BadWeather C_DampError C_TooLarge C_Weather) 2 G_l_no_first) := ok_l_no_first (ad := (adOf C_BadHour C_BadWeather C_DampError C_TooLarge C_Weather)) F_l_no_first (T_BadHour := T_BadHour) (T_BadWeather := T_BadWeather) (T_DampError := T_DampError) (T_TooLarge := T_TooLarge) (T_Weather := T_Weather) (z_ValueError := z_ValueError) (z_isinstance := z_isinstance) (kit_BadHour_BadWeather := kit_BadHour_BadWeather) (kit_BadHour_DampError := kit_BadHour_DampError) (kit_BadHour_TooLarge := kit_BadHour_TooLarge) (kit_BadHour_ValueError := kit_BadHour_ValueError) (xm_BadHour_BadHour := xm_BadHour_BadHour) (xm_BadWeather_BadHour := xm_BadWeather_BadHour) (xm_DampError_BadHour := xm_DampError_BadHour) (xm_TooLarge_BadHour := xm_TooLarge_BadHour) (O_Weather_first := O_Weather_first) (b_Weather_first := b_Weather_first) (M_Weather_first := M_Weather_first)
  have F_l_cut := fun_mk (st := s_l_cut) l_l_cut e_l_cut k_l_cut
  have b_l_cut := F_l_cut.binds (ps := ["weather", "signs", "n"]) fun _ _ _ _ _ _ us hl => match us, hl with | [_, _, _], _ => rfl
  have m_l_cut := PySem.W.mg_of X G a_l_cut
  have O_l_cut : FnOk l.prog w K mg base CX0 6 f_l_cut _ ["weather", "signs", "n"] (spP K (adOf C_BadHour C_BadWeather C_DampError C_TooLarge C_Weather) 3 G_l_cut) := ok_l_cut (ad := (adOf C_BadHour C_BadWeather C_DampError C_TooLarge C_Weather)) F_l_cut (T_Weather := T_Weather) (z_isinstance := z_isinstance) (z_len := z_len) (z_tuple := z_tuple) (kit_tuple_tuple := kit_tuple_tuple) (O_l_lengths := O_l_lengths) (m_l_lengths := m_l_lengths) (k_l_lengths := k_l_lengths) (b_l_lengths := b_l_lengths) (O_l_no_first := O_l_no_first) (m_l_no_first := m_l_no_first) (k_l_no_first := k_l_no_first) (b_l_no_first := b_l_no_first) (O_l_rows := O_l_rows) (m_l_rows := m_l_rows) (k_l_rows := k_l_rows) (b_l_rows := b_l_rows) (O_l_tells := O_l_tells) (m_l_tells := m_l_tells) (k_l_tells := k_l_tells) (b_l_tells := b_l_tells) (O_Weather_first := O_Weather_first) (b_Weather_first := b_Weather_first) (M_Weather_first := M_Weather_first)
  have F_Weather_eq := fun_mk (st := s_Weather_eq) l_Weather_eq e_Weather_eq k_Weather_eq
  have b_Weather_eq := F_Weather_eq.binds (ps := ["self", "other"]) fun _ _ _ _ _ _ us hl => match us, hl with | [_, _], _ => rfl
  have M_Weather_eq : Meth K ((adOf C_BadHour C_BadWeather C_DampError C_TooLarge C_Weather) .Weather) "__eq__" f_Weather_eq := ⟨a_Weather_eq, j_Weather_eq, k_Weather_eq⟩
  have O_Weather_eq : FnOk l.prog w K mg base CX0 1 f_Weather_eq _ ["self", "other"] (spP K (adOf C_BadHour C_BadWeather C_DampError C_TooLarge C_Weather) 2 G_Weather_eq) := ok_Weather_eq (ad := (adOf C_BadHour C_BadWeather C_DampError C_TooLarge C_Weather)) F_Weather_eq (T_Weather := T_Weather) (z_isinstance := z_isinstance) (kit_Weather_Weather := kit_Weather_Weather)
  have F_l_equals := fun_mk (st := s_l_equals) l_l_equals e_l_equals k_l_equals
  have b_l_equals := F_l_equals.binds (ps := ["one", "other", "due"]) fun _ _ _ _ _ _ us hl => match us, hl with | [_, _, _], _ => rfl
  have m_l_equals := PySem.W.mg_of X G a_l_equals
  have O_l_equals : FnOk l.prog w K mg base CX0 2 f_l_equals _ ["one", "other", "due"] (spP K (adOf C_BadHour C_BadWeather C_DampError C_TooLarge C_Weather) 3 G_l_equals) := ok_l_equals (ad := (adOf C_BadHour C_BadWeather C_DampError C_TooLarge C_Weather)) F_l_equals (T_Weather := T_Weather) (z_bool := z_bool) (z_isinstance := z_isinstance) (kit_bool_bool := kit_bool_bool) (O_Weather_eq := O_Weather_eq) (b_Weather_eq := b_Weather_eq) (M_Weather_eq := M_Weather_eq)
  have F_Weather_runs := fun_mk (st := s_Weather_runs) l_Weather_runs e_Weather_runs k_Weather_runs
  have b_Weather_runs := F_Weather_runs.binds (ps := ["self"]) fun _ _ _ _ _ _ us hl => match us, hl with | [_], _ => rfl
  have M_Weather_runs : Meth K ((adOf C_BadHour C_BadWeather C_DampError C_TooLarge C_Weather) .Weather) "runs" f_Weather_runs := ⟨a_Weather_runs, j_Weather_runs, k_Weather_runs⟩
  have O_Weather_runs : GFn l.prog w K mg base 1 f_Weather_runs _ ["self"] (spG K (adOf C_BadHour C_BadWeather C_DampError C_TooLarge C_Weather) 1 3 B_Weather_runs) := ok_Weather_runs (ad := (adOf C_BadHour C_BadWeather C_DampError C_TooLarge C_Weather)) F_Weather_runs (T_Weather := T_Weather) (z_enumerate := z_enumerate)
  have F_Weather_spells := fun_mk (st := s_Weather_spells) l_Weather_spells e_Weather_spells k_Weather_spells
  have b_Weather_spells := F_Weather_spells.binds (ps := ["self"]) fun _ _ _ _ _ _ us hl => match us, hl with | [_], _ => rfl
  have M_Weather_spells : Meth K ((adOf C_BadHour C_BadWeather C_DampError C_TooLarge C_Weather) .Weather) "spells" f_Weather_spells := ⟨a_Weather_spells, j_Weather_spells, k_Weather_spells⟩
  have O_Weather_spells : GFn l.prog w K mg base 1 f_Weather_spells _ ["self"] (spG K (adOf C_BadHour C_BadWeather C_DampError C_TooLarge C_Weather) 1 3 B_Weather_spells) := ok_Weather_spells (ad := (adOf C_BadHour C_BadWeather C_DampError C_TooLarge C_Weather)) F_Weather_spells (T_Weather := T_Weather) (z_zip := z_zip)
  have F_l_runs := fun_mk (st := s_l_runs) l_l_runs e_l_runs k_l_runs
  have b_l_runs := F_l_runs.binds (ps := ["signs"]) fun _ _ _ _ _ _ us hl => match us, hl with | [_], _ => rfl
  have m_l_runs := PySem.W.mg_of X G a_l_runs
  have O_l_runs : FnOk l.prog w K mg base CX0 1 f_l_runs _ ["signs"] (spP K (adOf C_BadHour C_BadWeather C_DampError C_TooLarge C_Weather) 1 G_l_runs) := ok_l_runs (ad := (adOf C_BadHour C_BadWeather C_DampError C_TooLarge C_Weather)) F_l_runs (z_len := z_len) (z_range := z_range)
  have F_l_spells := fun_mk (st := s_l_spells) l_l_spells e_l_spells k_l_spells
  have b_l_spells := F_l_spells.binds (ps := ["signs"]) fun _ _ _ _ _ _ us hl => match us, hl with | [_], _ => rfl
  have m_l_spells := PySem.W.mg_of X G a_l_spells
  have O_l_spells : FnOk l.prog w K mg base CX0 1 f_l_spells _ ["signs"] (spP K (adOf C_BadHour C_BadWeather C_DampError C_TooLarge C_Weather) 1 G_l_spells) := ok_l_spells (ad := (adOf C_BadHour C_BadWeather C_DampError C_TooLarge C_Weather)) F_l_spells (z_len := z_len) (z_range := z_range)
  have F_l_parts := fun_mk (st := s_l_parts) l_l_parts e_l_parts k_l_parts
  have b_l_parts := F_l_parts.binds (ps := ["weather", "signs"]) fun _ _ _ _ _ _ us hl => match us, hl with | [_, _], _ => rfl
  have m_l_parts := PySem.W.mg_of X G a_l_parts
  have O_l_parts : FnOk l.prog w K mg base CX0 6 f_l_parts _ ["weather", "signs"] (spP K (adOf C_BadHour C_BadWeather C_DampError C_TooLarge C_Weather) 2 G_l_parts) := ok_l_parts (ad := (adOf C_BadHour C_BadWeather C_DampError C_TooLarge C_Weather)) F_l_parts (T_Weather := T_Weather) (z_list := z_list) (O_l_rows := O_l_rows) (m_l_rows := m_l_rows) (k_l_rows := k_l_rows) (b_l_rows := b_l_rows) (O_l_runs := O_l_runs) (m_l_runs := m_l_runs) (k_l_runs := k_l_runs) (b_l_runs := b_l_runs) (O_l_spells := O_l_spells) (m_l_spells := m_l_spells) (k_l_spells := k_l_spells) (b_l_spells := b_l_spells) (O_l_tells := O_l_tells) (m_l_tells := m_l_tells) (k_l_tells := k_l_tells) (b_l_tells := b_l_tells) (O_Weather_runs := O_Weather_runs) (b_Weather_runs := b_Weather_runs) (M_Weather_runs := M_Weather_runs) (O_Weather_spells := O_Weather_spells) (b_Weather_spells := b_Weather_spells) (M_Weather_spells := M_Weather_spells)
  have F_l_joins := fun_mk (st := s_l_joins) l_l_joins e_l_joins k_l_joins
  have b_l_joins := F_l_joins.binds (ps := ["x", "y", "before", "behind", "at"]) fun _ _ _ _ _ _ us hl => match us, hl with | [_, _, _, _, _], _ => rfl
  have m_l_joins := PySem.W.mg_of X G a_l_joins
  have O_l_joins : FnOk l.prog w K mg base CX0 7 f_l_joins _ ["x", "y", "before", "behind", "at"] (spP K (adOf C_BadHour C_BadWeather C_DampError C_TooLarge C_Weather) 5 G_l_joins) := ok_l_joins (ad := (adOf C_BadHour C_BadWeather C_DampError C_TooLarge C_Weather)) F_l_joins (T_Weather := T_Weather) (z_len := z_len) (O_l_cut := O_l_cut) (m_l_cut := m_l_cut) (k_l_cut := k_l_cut) (b_l_cut := b_l_cut) (O_l_equals := O_l_equals) (m_l_equals := m_l_equals) (k_l_equals := k_l_equals) (b_l_equals := b_l_equals) (O_l_lengths := O_l_lengths) (m_l_lengths := m_l_lengths) (k_l_lengths := k_l_lengths) (b_l_lengths := b_l_lengths) (O_l_no_weather := O_l_no_weather) (m_l_no_weather := m_l_no_weather) (k_l_no_weather := k_l_no_weather) (b_l_no_weather := b_l_no_weather) (O_l_parts := O_l_parts) (m_l_parts := m_l_parts) (k_l_parts := k_l_parts) (b_l_parts := b_l_parts) (O_Weather_add := O_Weather_add) (b_Weather_add := b_Weather_add) (M_Weather_add := M_Weather_add) (O_Weather_first := O_Weather_first) (b_Weather_first := b_Weather_first) (M_Weather_first := M_Weather_first) (O_Weather_init := O_Weather_init) (b_Weather_init := b_Weather_init) (I_Weather := I_Weather)
  have F_l_pool := fun_mk (st := s_l_pool) l_l_pool e_l_pool k_l_pool
  have b_l_pool := F_l_pool.binds (ps := ["cell"]) fun _ _ _ _ _ _ us hl => match us, hl with | [_], _ => rfl
  have m_l_pool := PySem.W.mg_of X G a_l_pool
  have O_l_pool : FnOk l.prog w K mg base CX0 1 f_l_pool _ ["cell"] (spP K (adOf C_BadHour C_BadWeather C_DampError C_TooLarge C_Weather) 1 G_l_pool) := ok_l_pool (ad := (adOf C_BadHour C_BadWeather C_DampError C_TooLarge C_Weather)) F_l_pool (z_int := z_int)
  have F_l_take := fun_mk (st := s_l_take) l_l_take e_l_take k_l_take
  have b_l_take := F_l_take.binds (ps := ["pool", "size"]) fun _ _ _ _ _ _ us hl => match us, hl with | [_, _], _ => rfl
  have m_l_take := PySem.W.mg_of X G a_l_take
  have O_l_take : FnOk l.prog w K mg base CX0 1 f_l_take _ ["pool", "size"] (spP K (adOf C_BadHour C_BadWeather C_DampError C_TooLarge C_Weather) 2 G_l_take) := ok_l_take (ad := (adOf C_BadHour C_BadWeather C_DampError C_TooLarge C_Weather)) F_l_take (z_int := z_int)
  have F_l_signs := fun_mk (st := s_l_signs) l_l_signs e_l_signs k_l_signs
  have b_l_signs := F_l_signs.binds (ps := ["pool", "hours"]) fun _ _ _ _ _ _ us hl => match us, hl with | [_, _], _ => rfl
  have m_l_signs := PySem.W.mg_of X G a_l_signs
  have O_l_signs : FnOk l.prog w K mg base CX0 2 f_l_signs _ ["pool", "hours"] (spP K (adOf C_BadHour C_BadWeather C_DampError C_TooLarge C_Weather) 2 G_l_signs) := ok_l_signs (ad := (adOf C_BadHour C_BadWeather C_DampError C_TooLarge C_Weather)) F_l_signs (z_range := z_range) (O_l_take := O_l_take) (m_l_take := m_l_take) (k_l_take := k_l_take) (b_l_take := b_l_take)
  have F_l_size := fun_mk (st := s_l_size) l_l_size e_l_size k_l_size
  have b_l_size := F_l_size.binds (ps := ["pool", "usual", "most"]) fun _ _ _ _ _ _ us hl => match us, hl with | [_, _, _], _ => rfl
  have m_l_size := PySem.W.mg_of X G a_l_size
  have O_l_size : FnOk l.prog w K mg base CX0 2 f_l_size _ ["pool", "usual", "most"] (spP K (adOf C_BadHour C_BadWeather C_DampError C_TooLarge C_Weather) 3 G_l_size) := ok_l_size (ad := (adOf C_BadHour C_BadWeather C_DampError C_TooLarge C_Weather)) F_l_size (O_l_take := O_l_take) (m_l_take := m_l_take) (k_l_take := k_l_take) (b_l_take := b_l_take)
  have F_l_turns := fun_mk (st := s_l_turns) l_l_turns e_l_turns k_l_turns
  have b_l_turns := F_l_turns.binds (ps := ["weather", "signs"]) fun _ _ _ _ _ _ us hl => match us, hl with | [_, _], _ => rfl
  have m_l_turns := PySem.W.mg_of X G a_l_turns
  have O_l_turns : FnOk l.prog w K mg base CX0 7 f_l_turns _ ["weather", "signs"] (spP K (adOf C_BadHour C_BadWeather C_DampError C_TooLarge C_Weather) 2 G_l_turns) := ok_l_turns (ad := (adOf C_BadHour C_BadWeather C_DampError C_TooLarge C_Weather)) F_l_turns (T_Weather := T_Weather) (z_len := z_len) (z_range := z_range) (O_l_equals := O_l_equals) (m_l_equals := m_l_equals) (k_l_equals := k_l_equals) (b_l_equals := b_l_equals) (O_l_lengths := O_l_lengths) (m_l_lengths := m_l_lengths) (k_l_lengths := k_l_lengths) (b_l_lengths := b_l_lengths) (O_l_no_weather := O_l_no_weather) (m_l_no_weather := m_l_no_weather) (k_l_no_weather := k_l_no_weather) (b_l_no_weather := b_l_no_weather) (O_l_parts := O_l_parts) (m_l_parts := m_l_parts) (k_l_parts := k_l_parts) (b_l_parts := b_l_parts) (O_l_tells := O_l_tells) (m_l_tells := m_l_tells) (k_l_tells := k_l_tells) (b_l_tells := b_l_tells) (O_Weather_back := O_Weather_back) (b_Weather_back := b_Weather_back) (M_Weather_back := M_Weather_back) (O_Weather_init := O_Weather_init) (b_Weather_init := b_Weather_init) (I_Weather := I_Weather) (O_Weather_signs := O_Weather_signs) (b_Weather_signs := b_Weather_signs) (M_Weather_signs := M_Weather_signs)
  have F_l_law := fun_mk (st := s_l_law) l_l_law e_l_law k_l_law
  have O_l_law : FnOk l.prog w K mg base CX0 8 fa _ ["script"] (spP K (adOf C_BadHour C_BadWeather C_DampError C_TooLarge C_Weather) 1 G_l_law) := ok_l_law (ad := (adOf C_BadHour C_BadWeather C_DampError C_TooLarge C_Weather)) F_l_law (T_Weather := T_Weather) (z_len := z_len) (z_min := z_min) (O_l_adds := O_l_adds) (m_l_adds := m_l_adds) (k_l_adds := k_l_adds) (b_l_adds := b_l_adds) (O_l_cell := O_l_cell) (m_l_cell := m_l_cell) (k_l_cell := k_l_cell) (b_l_cell := b_l_cell) (O_l_cut := O_l_cut) (m_l_cut := m_l_cut) (k_l_cut := k_l_cut) (b_l_cut := b_l_cut) (O_l_equals := O_l_equals) (m_l_equals := m_l_equals) (k_l_equals := k_l_equals) (b_l_equals := b_l_equals) (O_l_joins := O_l_joins) (m_l_joins := m_l_joins) (k_l_joins := k_l_joins) (b_l_joins := b_l_joins) (O_l_lengths := O_l_lengths) (m_l_lengths := m_l_lengths) (k_l_lengths := k_l_lengths) (b_l_lengths := b_l_lengths) (O_l_no_weather := O_l_no_weather) (m_l_no_weather := m_l_no_weather) (k_l_no_weather := k_l_no_weather) (b_l_no_weather := b_l_no_weather) (O_l_parts := O_l_parts) (m_l_parts := m_l_parts) (k_l_parts := k_l_parts) (b_l_parts := b_l_parts) (O_l_pool := O_l_pool) (m_l_pool := m_l_pool) (k_l_pool := k_l_pool) (b_l_pool := b_l_pool) (O_l_signs := O_l_signs) (m_l_signs := m_l_signs) (k_l_signs := k_l_signs) (b_l_signs := b_l_signs) (O_l_size := O_l_size) (m_l_size := m_l_size) (k_l_size := k_l_size) (b_l_size := b_l_size) (O_l_take := O_l_take) (m_l_take := m_l_take) (k_l_take := k_l_take) (b_l_take := b_l_take) (O_l_tells := O_l_tells) (m_l_tells := m_l_tells) (k_l_tells := k_l_tells) (b_l_tells := b_l_tells) (O_l_turns := O_l_turns) (m_l_turns := m_l_turns) (k_l_turns := k_l_turns) (b_l_turns := b_l_turns) (O_Weather_add := O_Weather_add) (b_Weather_add := b_Weather_add) (M_Weather_add := M_Weather_add) (O_Weather_init := O_Weather_init) (b_Weather_init := b_Weather_init) (I_Weather := I_Weather) (O_Weather_of_signs := O_Weather_of_signs) (b_Weather_of_signs := b_Weather_of_signs) (SM_Weather_of_signs := SM_Weather_of_signs) (k_Weather_of_signs := k_Weather_of_signs)
  exact O_l_law.imp (spLaw_of law_pure)
end DP
open PySem PySem.W PyProof.Rows
set_option maxHeartbeats 0 in
theorem PySem.Challenge.cw_dampspells_k04_weather_cut_and_joined_holds : PySem.Challenge.rw_dampspells_k04_weather_cut_and_joined.Holds := by
  w_on; o_law; k_head; (case hw => w_witness2)
  k_fill
  refine L2.walk_of (l := PySem.Challenge.rw_dampspells_k04_weather_cut_and_joined) (n := 63) (k := 8) (x := "script") (CX := fun _ => L2.CX0) (sp := fun w => PL.spLaw _) rfl (by decide) rfl ⟨rfl, by decide, by decide⟩ (fun w h Y => PySem.W.kIn_of Y) ?F (fun _ _ a ns hl _ hS => ⟨a, ns, rfl, hS, hl, fun _ => rfl⟩) (fun _ _ _ _ _ h => h)
  case F =>
    intro w mg fa h KX G hmg
    refine' DP.all_mk KX G hmg ?a_BadHour ?c_BadHour_x ?c_BadHour_kp ?c_BadHour_b ?c_BadHour_t ?c_BadHour_i ?c_BadHour_s ?c_BadHour_hg ?c_BadHour_hk ?c_BadHour_hd ?c_BadHour_ha ?c_BadHour_hn ?c_BadHour_ht ?c_BadHour_hm ?a_BadWeather ?c_BadWeather_x ?c_BadWeather_kp ?c_BadWeather_b ?c_BadWeather_t ?c_BadWeather_i ?c_BadWeather_s ?c_BadWeather_hg ?c_BadWeather_hk ?c_BadWeather_hd ?c_BadWeather_ha ?c_BadWeather_hn ?c_BadWeather_ht ?c_BadWeather_hm ?a_DampError ?c_DampError_x ?c_DampError_kp ?c_DampError_b ?c_DampError_t ?c_DampError_i ?c_DampError_s ?c_DampError_hg ?c_DampError_hk ?c_DampError_hd ?c_DampError_ha ?c_DampError_hn ?c_DampError_ht ?c_DampError_hm ?a_TooLarge ?c_TooLarge_x ?c_TooLarge_kp ?c_TooLarge_b ?c_TooLarge_t ?c_TooLarge_i ?c_TooLarge_s ?c_TooLarge_hg ?c_TooLarge_hk ?c_TooLarge_hd ?c_TooLarge_ha ?c_TooLarge_hn ?c_TooLarge_ht ?c_TooLarge_hm ?a_Weather ?c_Weather_pg ?c_Weather_hd ?c_Weather_po ?c_Weather_sa ?c_Weather_sf ?c_Weather_nf ?c_Weather_ha ?c_Weather_hn ?c_Weather_ht ?c_Weather_hm ?c_Weather_kp ?c_Weather_mkk ?c_Weather_rd ?c_Weather_ga ?c_Weather_n___len__ ?c_Weather_n___length_hint__ ?c_Weather_n_lengths ?kit_BadHour_BadWeather ?kit_BadHour_DampError ?kit_BadHour_TooLarge ?kit_BadHour_ValueError ?kit_BadWeather_BadHour ?kit_BadWeather_DampError ?kit_BadWeather_TooLarge ?kit_BadWeather_ValueError ?kit_Weather_Weather ?kit_bool_bool ?kit_int_bool ?kit_int_int ?kit_str_str ?kit_tuple_tuple ?xm_BadHour_BadHour ?xm_BadHour_BadWeather ?xm_BadWeather_BadHour ?xm_BadWeather_BadWeather ?xm_DampError_BadHour ?xm_DampError_BadWeather ?xm_TooLarge_BadHour ?xm_TooLarge_BadWeather ?y_ValueError ?y_bool ?y_enumerate ?y_int ?y_isinstance ?y_iter ?y_len ?y_list ?y_min ?y_range ?y_str ?y_sum ?y_tuple ?y_zip ?y_DAMP ?y_DRY ?y_MOST_HOURS ?a_Weather_init ?j_Weather_init ?l_Weather_init ?e_Weather_init ?k_Weather_init ?a_f_ends_damp ?l_f_ends_damp ?e_f_ends_damp ?k_f_ends_damp ?a_Weather_add ?j_Weather_add ?l_Weather_add ?e_Weather_add ?k_Weather_add ?a_f_lengths_of ?l_f_lengths_of ?e_f_lengths_of ?k_f_lengths_of ?a_Weather_of_signs ?pr_Weather_of_signs ?l_Weather_of_signs ?e_Weather_of_signs ?k_Weather_of_signs ?a_Weather_back ?j_Weather_back ?l_Weather_back ?e_Weather_back ?k_Weather_back ?a_l_no_weather ?l_l_no_weather ?e_l_no_weather ?k_l_no_weather ?a_Weather_hours ?pg_Weather_hours ?pt_Weather_hours ?pr_Weather_hours ?l_Weather_hours ?e_Weather_hours ?k_Weather_hours ?a_Weather_check_told ?j_Weather_check_told ?l_Weather_check_told ?e_Weather_check_told ?k_Weather_check_told ?a_Weather_signs ?j_Weather_signs ?l_Weather_signs ?e_Weather_signs ?k_Weather_signs ?a_Weather_is_dry ?j_Weather_is_dry ?l_Weather_is_dry ?e_Weather_is_dry ?k_Weather_is_dry ?a_Weather_iter ?j_Weather_iter ?l_Weather_iter ?e_Weather_iter ?k_Weather_iter ?a_l_int ?l_l_int ?e_l_int ?k_l_int ?a_l_lengths ?l_l_lengths ?e_l_lengths ?k_l_lengths ?a_l_rows ?l_l_rows ?e_l_rows ?k_l_rows ?a_l_tells ?l_l_tells ?e_l_tells ?k_l_tells ?a_l_adds ?l_l_adds ?e_l_adds ?k_l_adds ?a_l_cell ?l_l_cell ?e_l_cell ?k_l_cell ?a_Weather_first ?j_Weather_first ?l_Weather_first ?e_Weather_first ?k_Weather_first ?a_l_no_first ?l_l_no_first ?e_l_no_first ?k_l_no_first ?a_l_cut ?l_l_cut ?e_l_cut ?k_l_cut ?a_Weather_eq ?j_Weather_eq ?l_Weather_eq ?e_Weather_eq ?k_Weather_eq ?a_l_equals ?l_l_equals ?e_l_equals ?k_l_equals ?a_Weather_runs ?j_Weather_runs ?l_Weather_runs ?e_Weather_runs ?k_Weather_runs ?a_Weather_spells ?j_Weather_spells ?l_Weather_spells ?e_Weather_spells ?k_Weather_spells ?a_l_runs ?l_l_runs ?e_l_runs ?k_l_runs ?a_l_spells ?l_l_spells ?e_l_spells ?k_l_spells ?a_l_parts ?l_l_parts ?e_l_parts ?k_l_parts ?a_l_joins ?l_l_joins ?e_l_joins ?k_l_joins ?a_l_pool ?l_l_pool ?e_l_pool ?k_l_pool ?a_l_take ?l_l_take ?e_l_take ?k_l_take ?a_l_signs ?l_l_signs ?e_l_signs ?k_l_signs ?a_l_size ?l_l_size ?e_l_size ?k_l_size ?a_l_turns ?l_l_turns ?e_l_turns ?k_l_turns ?a_l_law ?l_l_law ?e_l_law ?k_l_law
    (case a_BadHour => k_is)
    (case c_BadHour_x => k_exc)
    (case c_BadHour_kp => k_is)
    (case c_BadHour_b => k_is)
    (case c_BadHour_t => k_is)
    (case c_BadHour_i => k_is)
    (case c_BadHour_s => k_is)
    (case c_BadHour_hg => k_is)
    (case c_BadHour_hk => k_is)
    (case c_BadHour_hd => k_is)
    (case c_BadHour_ha => k_is)
    (case c_BadHour_hn => k_is)
    (case c_BadHour_ht => k_is)
    (case c_BadHour_hm => k_is)
    (case a_BadWeather => k_is)
    (case c_BadWeather_x => k_exc)
    (case c_BadWeather_kp => k_is)
    (case c_BadWeather_b => k_is)
    (case c_BadWeather_t => k_is)
    (case c_BadWeather_i => k_is)
    (case c_BadWeather_s => k_is)
    (case c_BadWeather_hg => k_is)
    (case c_BadWeather_hk => k_is)
    (case c_BadWeather_hd => k_is)
    (case c_BadWeather_ha => k_is)
    (case c_BadWeather_hn => k_is)
    (case c_BadWeather_ht => k_is)
    (case c_BadWeather_hm => k_is)
    (case a_DampError => k_is)
    (case c_DampError_x => k_exc)
    (case c_DampError_kp => k_is)
    (case c_DampError_b => k_is)
    (case c_DampError_t => k_is)
    (case c_DampError_i => k_is)
    (case c_DampError_s => k_is)
    (case c_DampError_hg => k_is)
    (case c_DampError_hk => k_is)
    (case c_DampError_hd => k_is)
    (case c_DampError_ha => k_is)
    (case c_DampError_hn => k_is)
    (case c_DampError_ht => k_is)
    (case c_DampError_hm => k_is)
    (case a_TooLarge => k_is)
    (case c_TooLarge_x => k_exc)
    (case c_TooLarge_kp => k_is)
    (case c_TooLarge_b => k_is)
    (case c_TooLarge_t => k_is)
    (case c_TooLarge_i => k_is)
    (case c_TooLarge_s => k_is)
    (case c_TooLarge_hg => k_is)
    (case c_TooLarge_hk => k_is)
    (case c_TooLarge_hd => k_is)
    (case c_TooLarge_ha => k_is)
    (case c_TooLarge_hn => k_is)
    (case c_TooLarge_ht => k_is)
    (case c_TooLarge_hm => k_is)
    (case a_Weather => k_is)
    (case c_Weather_pg => k_is)
    (case c_Weather_hd => k_is)
    (case c_Weather_po => k_is)
    (case c_Weather_sa => k_is)
    (case c_Weather_sf => k_is)
    (case c_Weather_nf => k_is)
    (case c_Weather_ha => k_is)
    (case c_Weather_hn => k_is)
    (case c_Weather_ht => k_is)
    (case c_Weather_hm => k_is)
    (case c_Weather_kp => k_is)
    (case c_Weather_mkk => k_is)
    (case c_Weather_rd => k_is)
    (case c_Weather_ga => k_is)
    (case c_Weather_n___len__ => k_is)
    (case c_Weather_n___length_hint__ => k_is)
    (case c_Weather_n_lengths => k_is)
    (case kit_BadHour_BadWeather => first | k_is | decide +kernel | rfl)
    (case kit_BadHour_DampError => first | k_is | decide +kernel | rfl)
    (case kit_BadHour_TooLarge => first | k_is | decide +kernel | rfl)
    (case kit_BadHour_ValueError => first | k_is | decide +kernel | rfl)
    (case kit_BadWeather_BadHour => first | k_is | decide +kernel | rfl)
    (case kit_BadWeather_DampError => first | k_is | decide +kernel | rfl)
    (case kit_BadWeather_TooLarge => first | k_is | decide +kernel | rfl)
    (case kit_BadWeather_ValueError => first | k_is | decide +kernel | rfl)
    (case kit_Weather_Weather => first | k_is | decide +kernel | rfl)
    (case kit_bool_bool => first | k_is | decide +kernel | rfl)
    (case kit_int_bool => first | k_is | decide +kernel | rfl)
    (case kit_int_int => first | k_is | decide +kernel | rfl)
    (case kit_str_str => first | k_is | decide +kernel | rfl)
    (case kit_tuple_tuple => first | k_is | decide +kernel | rfl)
    (case xm_BadHour_BadHour => first | k_is | decide +kernel | rfl)
    (case xm_BadHour_BadWeather => first | k_is | decide +kernel | rfl)
    (case xm_BadWeather_BadHour => first | k_is | decide +kernel | rfl)
    (case xm_BadWeather_BadWeather => first | k_is | decide +kernel | rfl)
    (case xm_DampError_BadHour => first | k_is | decide +kernel | rfl)
    (case xm_DampError_BadWeather => first | k_is | decide +kernel | rfl)
    (case xm_TooLarge_BadHour => first | k_is | decide +kernel | rfl)
    (case xm_TooLarge_BadWeather => first | k_is | decide +kernel | rfl)
    (case y_ValueError => k_is)
    (case y_bool => k_is)
    (case y_enumerate => k_is)
    (case y_int => k_is)
    (case y_isinstance => k_is)
    (case y_iter => k_is)
    (case y_len => k_is)
    (case y_list => k_is)
    (case y_min => k_is)
    (case y_range => k_is)
    (case y_str => k_is)
    (case y_sum => k_is)
    (case y_tuple => k_is)
    (case y_zip => k_is)
    (case y_DAMP => k_is)
    (case y_DRY => k_is)
    (case y_MOST_HOURS => k_is)
    (case a_Weather_init => k_is)
    (case j_Weather_init => k_is)
    (case l_Weather_init => k_is)
    (case e_Weather_init => k_is)
    (case k_Weather_init => k_is)
    (case a_f_ends_damp => k_is)
    (case l_f_ends_damp => k_is)
    (case e_f_ends_damp => k_is)
    (case k_f_ends_damp => k_is)
    (case a_Weather_add => k_is)
    (case j_Weather_add => k_is)
    (case l_Weather_add => k_is)
    (case e_Weather_add => k_is)
    (case k_Weather_add => k_is)
    (case a_f_lengths_of => k_is)
    (case l_f_lengths_of => k_is)
    (case e_f_lengths_of => k_is)
    (case k_f_lengths_of => k_is)
    (case a_Weather_of_signs => k_is)
    (case pr_Weather_of_signs => k_is)
    (case l_Weather_of_signs => k_is)
    (case e_Weather_of_signs => k_is)
    (case k_Weather_of_signs => k_is)
    (case a_Weather_back => k_is)
    (case j_Weather_back => k_is)
    (case l_Weather_back => k_is)
    (case e_Weather_back => k_is)
    (case k_Weather_back => k_is)
    (case a_l_no_weather => k_is)
    (case l_l_no_weather => k_is)
    (case e_l_no_weather => k_is)
    (case k_l_no_weather => k_is)
    (case a_Weather_hours => k_is)
    (case pg_Weather_hours => k_is)
    (case pt_Weather_hours => k_is)
    (case pr_Weather_hours => k_is)
    (case l_Weather_hours => k_is)
    (case e_Weather_hours => k_is)
    (case k_Weather_hours => k_is)
    (case a_Weather_check_told => k_is)
    (case j_Weather_check_told => k_is)
    (case l_Weather_check_told => k_is)
    (case e_Weather_check_told => k_is)
    (case k_Weather_check_told => k_is)
    (case a_Weather_signs => k_is)
    (case j_Weather_signs => k_is)
    (case l_Weather_signs => k_is)
    (case e_Weather_signs => k_is)
    (case k_Weather_signs => k_is)
    (case a_Weather_is_dry => k_is)
    (case j_Weather_is_dry => k_is)
    (case l_Weather_is_dry => k_is)
    (case e_Weather_is_dry => k_is)
    (case k_Weather_is_dry => k_is)
    (case a_Weather_iter => k_is)
    (case j_Weather_iter => k_is)
    (case l_Weather_iter => k_is)
    (case e_Weather_iter => k_is)
    (case k_Weather_iter => k_is)
    (case a_l_int => k_is)
    (case l_l_int => k_is)
    (case e_l_int => k_is)
    (case k_l_int => k_is)
    (case a_l_lengths => k_is)
    (case l_l_lengths => k_is)
    (case e_l_lengths => k_is)
    (case k_l_lengths => k_is)
    (case a_l_rows => k_is)
    (case l_l_rows => k_is)
    (case e_l_rows => k_is)
    (case k_l_rows => k_is)
    (case a_l_tells => k_is)
    (case l_l_tells => k_is)
    (case e_l_tells => k_is)
    (case k_l_tells => k_is)
    (case a_l_adds => k_is)
    (case l_l_adds => k_is)
    (case e_l_adds => k_is)
    (case k_l_adds => k_is)
    (case a_l_cell => k_is)
    (case l_l_cell => k_is)
    (case e_l_cell => k_is)
    (case k_l_cell => k_is)
    (case a_Weather_first => k_is)
    (case j_Weather_first => k_is)
    (case l_Weather_first => k_is)
    (case e_Weather_first => k_is)
    (case k_Weather_first => k_is)
    (case a_l_no_first => k_is)
    (case l_l_no_first => k_is)
    (case e_l_no_first => k_is)
    (case k_l_no_first => k_is)
    (case a_l_cut => k_is)
    (case l_l_cut => k_is)
    (case e_l_cut => k_is)
    (case k_l_cut => k_is)
    (case a_Weather_eq => k_is)
    (case j_Weather_eq => k_is)
    (case l_Weather_eq => k_is)
    (case e_Weather_eq => k_is)
    (case k_Weather_eq => k_is)
    (case a_l_equals => k_is)
    (case l_l_equals => k_is)
    (case e_l_equals => k_is)
    (case k_l_equals => k_is)
    (case a_Weather_runs => k_is)
    (case j_Weather_runs => k_is)
    (case l_Weather_runs => k_is)
    (case e_Weather_runs => k_is)
    (case k_Weather_runs => k_is)
    (case a_Weather_spells => k_is)
    (case j_Weather_spells => k_is)
    (case l_Weather_spells => k_is)
    (case e_Weather_spells => k_is)
    (case k_Weather_spells => k_is)
    (case a_l_runs => k_is)
    (case l_l_runs => k_is)
    (case e_l_runs => k_is)
    (case k_l_runs => k_is)
    (case a_l_spells => k_is)
    (case l_l_spells => k_is)
    (case e_l_spells => k_is)
    (case k_l_spells => k_is)
    (case a_l_parts => k_is)
    (case l_l_parts => k_is)
    (case e_l_parts => k_is)
    (case k_l_parts => k_is)
    (case a_l_joins => k_is)
    (case l_l_joins => k_is)
    (case e_l_joins => k_is)
    (case k_l_joins => k_is)
    (case a_l_pool => k_is)
    (case l_l_pool => k_is)
    (case e_l_pool => k_is)
    (case k_l_pool => k_is)
    (case a_l_take => k_is)
    (case l_l_take => k_is)
    (case e_l_take => k_is)
    (case k_l_take => k_is)
    (case a_l_signs => k_is)
    (case l_l_signs => k_is)
    (case e_l_signs => k_is)
    (case k_l_signs => k_is)
    (case a_l_size => k_is)
    (case l_l_size => k_is)
    (case e_l_size => k_is)
    (case k_l_size => k_is)
    (case a_l_turns => k_is)
    (case l_l_turns => k_is)
    (case e_l_turns => k_is)
    (case k_l_turns => k_is)
    (case a_l_law => k_is)
    (case l_l_law => k_is)
    (case e_l_law => k_is)
    (case k_l_law => k_is)
end
